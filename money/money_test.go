package money_test

import (
	"math"
	"math/big"
	"slices"
	"strings"
	"testing"

	"customs/api"
	"customs/exact"
	"customs/money"
)

const most = api.MaxAmount

// amounts are amounts around the edges of their range, and some ordinary ones.
var amounts = []int{-most, -most + 1, -most / 2, -123456789, -1205, -1000, -101, -100, -99, -10, -5, -2, -1, 0, 1, 2, 3, 5, 7, 10, 99, 100, 101, 999, 1205, 123456789, most / 2, most - 1, most}

// strangers are numbers that are no amounts.
var strangers = []int{math.MinInt, math.MinInt + 1, -2 * most, -most - 1, most + 1, 2 * most, math.MaxInt}

var modes = []exact.Mode{exact.Down, exact.Up, exact.HalfUp, exact.HalfEven}

var noModes = []exact.Mode{math.MinInt, -1, exact.HalfEven + 1, 4, math.MaxInt}

func isAmount(n *big.Int) bool { return n.CmpAbs(big.NewInt(most)) <= 0 }

// rounded returns the quotient of two positive numbers by the definitions of the modes: from the floor, the ceiling, and twice the distance to the floor.
func rounded(n, d *big.Int, m exact.Mode) *big.Int {
	floor, rest := new(big.Int).QuoRem(n, d, new(big.Int))
	if rest.Sign() == 0 {
		return floor
	}
	ceiling := new(big.Int).Add(floor, big.NewInt(1))
	nearer := new(big.Int).Lsh(rest, 1).Cmp(d)
	switch {
	case m == exact.Down, m != exact.Up && nearer < 0:
		return floor
	case m == exact.HalfEven && nearer == 0 && floor.Bit(0) == 0:
		return floor
	}
	return ceiling
}

// P2.1

func TestSum(t *testing.T) {
	for _, x := range []struct {
		l    []int
		want int
		err  api.Errno
	}{
		{nil, 0, api.OK},
		{[]int{}, 0, api.OK},
		{[]int{-7}, -7, api.OK},
		{[]int{1, 2, 3, -10}, -4, api.OK},
		{[]int{most}, most, api.OK},
		{[]int{-most}, -most, api.OK},
		{[]int{most - 1, 1}, most, api.OK},
		{[]int{1 - most, -1}, -most, api.OK},
		{[]int{most, 1}, 0, api.ErrOverflow},
		{[]int{-most, -1}, 0, api.ErrOverflow},
		{[]int{most, most}, 0, api.ErrOverflow},
		{[]int{-most, -most}, 0, api.ErrOverflow},
		// The first elements together are no amount, but all are.
		{[]int{most, 1, -1}, most, api.OK},
		{[]int{-most, -1, 1}, -most, api.OK},
		{[]int{most, most, most, -most, -most, -most}, 0, api.OK},
		{[]int{most, most, most, -most, -most, -5}, most - 5, api.OK},
		{[]int{-most, -most, -most, most, most, 5}, 5 - most, api.OK},
		// The first elements together are an amount, but all are not.
		{[]int{most, -most, most, 1}, 0, api.ErrOverflow},
		{[]int{-most, most, -most, -1}, 0, api.ErrOverflow},
		{[]int{most, most, 1 - most}, 0, api.ErrOverflow},
		{[]int{-most, -most, most - 1}, 0, api.ErrOverflow},
	} {
		if n, err := money.Sum(x.l); n != x.want || err != x.err {
			t.Errorf("Sum(%v) = %d, %d, want %d, %d", x.l, n, err, x.want, x.err)
		}
	}
}

func TestSumOfNoAmounts(t *testing.T) {
	for _, n := range strangers {
		for _, l := range [][]int{
			{n},
			{n, 1},
			{1, n},
			// The sum would be an amount.
			{n, -n},
			// ErrOverflow would apply too, even before the element.
			{most, most, n},
			{-most, -most, n},
		} {
			if sum, err := money.Sum(l); sum != 0 || err != api.ErrRange {
				t.Errorf("Sum(%v) = %d, %d, want ErrRange", l, sum, err)
			}
		}
	}
}

func TestSumOfThree(t *testing.T) {
	for _, a := range amounts {
		for _, b := range amounts {
			for _, c := range amounts {
				want, err := a+b+c, api.OK
				if want < -most || want > most {
					want, err = 0, api.ErrOverflow
				}
				if n, e := money.Sum([]int{a, b, c}); n != want || e != err {
					t.Errorf("Sum of %d, %d and %d = %d, %d, want %d, %d", a, b, c, n, e, want, err)
				}
			}
		}
	}
}

// The elements here add up to 2^63 or 2^64 and more, where a sum of ints is negative, or an amount again.
func TestSumBeyondWords(t *testing.T) {
	const wrap = 18446745 // most * wrap is above 2^64 by less than an amount.
	l := make([]int, wrap)
	for _, sign := range []int{1, -1} {
		for i := range l {
			l[i] = sign * most
		}
		for _, n := range []int{wrap / 2, wrap/2 + 1, wrap - 1, wrap} {
			if sum, err := money.Sum(l[:n]); sum != 0 || err != api.ErrOverflow {
				t.Errorf("Sum of %d times %d = %d, %d, want ErrOverflow", n, sign*most, sum, err)
			}
		}
		l[wrap/2] = sign * 5
		for i := wrap/2 + 1; i < wrap; i++ {
			l[i] = -sign * most
		}
		if sum, err := money.Sum(l); sum != sign*5 || err != api.OK {
			t.Errorf("Sum of %d times %d and back = %d, %d, want %d", wrap/2, sign*most, sum, err, sign*5)
		}
	}
}

func TestSumLeavesItsArgument(t *testing.T) {
	l := []int{most, most, 5, -most}
	before := slices.Clone(l)
	money.Sum(l)
	if !slices.Equal(l, before) {
		t.Errorf("Sum changed %v to %v", before, l)
	}
}

// P2.2

func TestScale(t *testing.T) {
	for _, x := range []struct {
		amount, n, d int
		want         [4]int // by mode
	}{
		{999, 50000, api.Million, [4]int{49, 50, 50, 50}},
		{7, 1, 2, [4]int{3, 4, 4, 4}},
		{5, 1, 2, [4]int{2, 3, 3, 2}},
		{-7, 1, 2, [4]int{-3, -4, -4, -4}},
		{-5, 1, 2, [4]int{-2, -3, -3, -2}},
		{-5, 1, 3, [4]int{-1, -2, -2, -2}},
		{-4, 1, 3, [4]int{-1, -2, -1, -1}},
		{-6, 1, 3, [4]int{-2, -2, -2, -2}},
		{-1, 1, most, [4]int{0, -1, 0, 0}},
		{0, most, 1, [4]int{0, 0, 0, 0}},
		{most, 0, 1, [4]int{0, 0, 0, 0}},
		{most, 1, 1, [4]int{most, most, most, most}},
		{-most, 1, 1, [4]int{-most, -most, -most, -most}},
		{1, most, 1, [4]int{most, most, most, most}},
		{most, most, most, [4]int{most, most, most, most}},
		{-most, most, most, [4]int{-most, -most, -most, -most}},
		{most, most - 1, most, [4]int{most - 1, most - 1, most - 1, most - 1}},
		{most - 1, most - 1, most, [4]int{most - 2, most - 1, most - 2, most - 2}},
	} {
		for i, m := range modes {
			if n, err := money.Scale(x.amount, x.n, x.d, m); n != x.want[i] || err != api.OK {
				t.Errorf("Scale(%d, %d, %d, %d) = %d, %d, want %d", x.amount, x.n, x.d, m, n, err, x.want[i])
			}
		}
	}
}

// expectedScale computes P2.2 by its words, for amount, n, d and m in their ranges.
func expectedScale(amount, n, d int, m exact.Mode) (int, api.Errno) {
	positive := new(big.Int).Abs(big.NewInt(int64(amount)))
	q := rounded(positive.Mul(positive, big.NewInt(int64(n))), big.NewInt(int64(d)), m)
	if amount < 0 {
		q.Neg(q)
	}
	if !isAmount(q) {
		return 0, api.ErrOverflow
	}
	return int(q.Int64()), api.OK
}

func TestScaleAgainstBig(t *testing.T) {
	factors := []int{0, 1, 2, 3, 7, 100, 9999, api.Million, api.MaxRate, most / 3, most / 2, most - 1, most}
	for _, a := range amounts {
		for _, n := range factors {
			for _, d := range factors[1:] {
				for _, m := range modes {
					want, err := expectedScale(a, n, d, m)
					if q, e := money.Scale(a, n, d, m); q != want || e != err {
						t.Errorf("Scale(%d, %d, %d, %d) = %d, %d, want %d, %d", a, n, d, m, q, e, want, err)
					}
				}
			}
		}
	}
}

func TestScaleOverflow(t *testing.T) {
	for _, x := range []struct{ amount, n, d int }{
		{most, 2, 1},
		{-most, 2, 1},
		{most, most, most - 1},
		{-most, most, most - 1},
		// 2^63 and 2^64 - 1, which are -2^63 and -1 as ints; 2^64 and more.
		{1 << 32, 1 << 31, 1},
		{1<<32 + 1, 1<<32 - 1, 1},
		{-1<<32 - 1, 1<<32 - 1, 1},
		{1 << 32, 1 << 32, 1},
		{1 << 33, 1<<31 + 1, 1},
		{most, most, 1},
		{-most, most, 1},
	} {
		for _, m := range modes {
			if n, err := money.Scale(x.amount, x.n, x.d, m); n != 0 || err != api.ErrOverflow {
				t.Errorf("Scale(%d, %d, %d, %d) = %d, %d, want ErrOverflow", x.amount, x.n, x.d, m, n, err)
			}
		}
	}
}

// Rounding decides here whether the result is an amount.
func TestScaleOverflowByRounding(t *testing.T) {
	for _, x := range []struct {
		amount, n, d int
		fits         [4]bool // by mode
	}{
		{800000000000, 5, 4, [4]bool{true, true, true, true}},   // most
		{714285714286, 7, 5, [4]bool{true, false, true, true}},  // most and 2/5
		{666666666667, 3, 2, [4]bool{true, false, false, true}}, // most and 1/2; most is even
		{-666666666667, 3, 2, [4]bool{true, false, false, true}},
		{555555555556, 9, 5, [4]bool{true, false, false, false}}, // most and 4/5
		{-555555555556, 9, 5, [4]bool{true, false, false, false}},
		{800000000001, 5, 4, [4]bool{false, false, false, false}}, // most and 5/4
	} {
		for i, m := range modes {
			want := 0
			wantErr := api.ErrOverflow
			if x.fits[i] {
				want, wantErr = most, api.OK
			}
			if x.amount < 0 {
				want = -want
			}
			if n, err := money.Scale(x.amount, x.n, x.d, m); n != want || err != wantErr {
				t.Errorf("Scale(%d, %d, %d, %d) = %d, %d, want %d, %d", x.amount, x.n, x.d, m, n, err, want, wantErr)
			}
		}
	}
}

func TestScaleOutOfRange(t *testing.T) {
	for _, n := range strangers {
		for _, m := range modes {
			for _, l := range [][3]int{{n, 1, 1}, {n, 0, 1}, {1, n, 1}, {0, n, 1}, {1, 1, n}, {0, 0, n}, {n, n, n}} {
				if q, err := money.Scale(l[0], l[1], l[2], m); q != 0 || err != api.ErrRange {
					t.Errorf("Scale(%d, %d, %d, %d) = %d, %d, want ErrRange", l[0], l[1], l[2], m, q, err)
				}
			}
		}
	}
	for _, l := range [][3]int{{1, -1, 1}, {0, -1, 1}, {1, 1, 0}, {0, 0, 0}, {1, 1, -1}, {-1, -1, 1}, {-1, 1, -1}, {1, -1, -1}, {1, -most, 1}, {1, 1, -most}} {
		if q, err := money.Scale(l[0], l[1], l[2], exact.Down); q != 0 || err != api.ErrRange {
			t.Errorf("Scale(%d, %d, %d, Down) = %d, %d, want ErrRange", l[0], l[1], l[2], q, err)
		}
	}
}

// ErrRange comes before ErrOverflow, whichever argument it is for.
func TestScaleErrorOrder(t *testing.T) {
	for _, m := range noModes {
		for _, l := range [][3]int{{1, 1, 1}, {0, 0, 1}, {6, 1, 2}, {-most, 1, 1}, {most, 2, 1}, {-most, most, 1}} {
			if q, err := money.Scale(l[0], l[1], l[2], m); q != 0 || err != api.ErrRange {
				t.Errorf("Scale(%d, %d, %d, %d) = %d, %d, want ErrRange", l[0], l[1], l[2], m, q, err)
			}
		}
	}
	for _, l := range [][3]int{{most + 1, most, 1}, {most, most + 1, 1}} {
		if q, err := money.Scale(l[0], l[1], l[2], exact.Up); q != 0 || err != api.ErrRange {
			t.Errorf("Scale(%d, %d, %d, Up) = %d, %d, want ErrRange", l[0], l[1], l[2], q, err)
		}
	}
}

func TestPart(t *testing.T) {
	if n, err := money.Part(999, 50000, exact.HalfUp); n != 50 || err != api.OK {
		t.Errorf("Part(999, 50000, HalfUp) = %d, %d, want 50", n, err)
	}
	rates := []int{0, 1, 2, 499999, 500000, 500001, api.Million - 1, api.Million, api.Million + 1, 3500000, api.MaxRate - 1, api.MaxRate}
	for _, a := range amounts {
		for _, r := range rates {
			for _, m := range modes {
				want, err := expectedScale(a, r, 1000000, m)
				if n, e := money.Part(a, r, m); n != want || e != err {
					t.Errorf("Part(%d, %d, %d) = %d, %d, want %d, %d", a, r, m, n, e, want, err)
				}
			}
		}
	}
}

func TestPartErrors(t *testing.T) {
	for _, x := range []struct {
		amount, rate int
		m            exact.Mode
		want         api.Errno
	}{
		{most / 10, api.MaxRate, exact.Down, api.OK},
		{most, api.MaxRate, exact.Down, api.ErrOverflow},
		{-most, api.Million + 1, exact.Down, api.ErrOverflow},
		// A rate above MaxRate is one even where the result is an amount, or too large.
		{1, api.MaxRate + 1, exact.Down, api.ErrRange},
		{0, api.MaxRate + 1, exact.Down, api.ErrRange},
		{most, api.MaxRate + 1, exact.Down, api.ErrRange},
		{1, most, exact.Down, api.ErrRange},
		{1, -1, exact.Down, api.ErrRange},
		{0, math.MinInt, exact.Down, api.ErrRange},
		{0, math.MaxInt, exact.Down, api.ErrRange},
		{most + 1, 0, exact.Down, api.ErrRange},
		{-most - 1, 0, exact.Down, api.ErrRange},
		{most + 1, api.MaxRate, exact.Down, api.ErrRange},
		{1, 1, -1, api.ErrRange},
		{1, 1, 4, api.ErrRange},
		{most, api.MaxRate, 4, api.ErrRange},
	} {
		n, err := money.Part(x.amount, x.rate, x.m)
		if err != x.want || err != api.OK && n != 0 {
			t.Errorf("Part(%d, %d, %d) = %d, %d, want the error %d", x.amount, x.rate, x.m, n, err, x.want)
		}
	}
}

// P2.3

func TestText(t *testing.T) {
	for _, x := range []struct {
		amount int
		text   string
	}{
		{0, "0.00"},
		{1, "0.01"},
		{9, "0.09"},
		{10, "0.10"},
		{99, "0.99"},
		{100, "1.00"},
		{-1, "-0.01"},
		{-10, "-0.10"},
		{-99, "-0.99"},
		{-100, "-1.00"},
		{-1205, "-12.05"},
		{1205, "12.05"},
		{700, "7.00"},
		{1000, "10.00"},
		{123456, "1234.56"},
		{123456789, "1234567.89"},
		{999999999999, "9999999999.99"},
		{most, "10000000000.00"},
		{-999999999999, "-9999999999.99"},
		{-most, "-10000000000.00"},
	} {
		if s := money.Format(x.amount); s != x.text {
			t.Errorf("Format(%d) = %q, want %q", x.amount, s, x.text)
		}
		if n, err := money.Parse(x.text); n != x.amount || err != api.OK {
			t.Errorf("Parse(%q) = %d, %d, want %d", x.text, n, err, x.amount)
		}
	}
}

func TestFormatOfNoAmount(t *testing.T) {
	for _, n := range strangers {
		if s := money.Format(n); s != "" {
			t.Errorf("Format(%d) = %q, want the empty string", n, s)
		}
	}
}

func TestParseUndoesFormat(t *testing.T) {
	check := func(amount int) {
		if n, err := money.Parse(money.Format(amount)); n != amount || err != api.OK {
			t.Errorf("Parse(Format(%d)) = %d, %d", amount, n, err)
		}
	}
	for n := -20000; n <= 20000; n++ {
		check(n)
	}
	for _, n := range amounts {
		check(n)
	}
}

func TestParseRejects(t *testing.T) {
	for _, s := range []string{
		// No number.
		"", "-", "+", ".", "-.", "x", "1,00", "1.0x", "x.00", "\x00", "1.00\x00", "\xff.00", "é.00", "١.٠٠", "1e2", "1e2.00", "0x1.00", "NaN", "1_0.00", "1.0_0", "1._00",
		// A sign, but no amount below zero.
		"-0.00", "+0.00", "+1.00", "-0.0", "--1.00", "1.00-", "- 1.00", "-+1.00", "−1.00",
		// Leading zeros, or no units.
		"00.00", "01.00", "-01.00", "007.00", "00.01", "-00.01", ".00", ".50", "-.50",
		// Missing or further digits, or points.
		"1", "0", "-1", "100", "1.", "1.0", "0.0", "12.5", "1.000", "0.000", "0.001", "1.005", "12.050", "1..00", "1.0.0", "1.00.", ".1.00", "1.2.05", "1.-05", "1.+05", "-1.-05",
		// Further text.
		" 1.00", "1.00 ", "1 .00", "1. 00", "1.00\n", "\t1.00", "1.00 EUR", "1,000.00",
		// The amount is too large.
		"10000000000.01", "-10000000000.01", "10000000001.00", "100000000000.00", "-100000000000.00",
		// The cents are the ends of an int, or beyond, and return to an amount if they wrap around.
		"92233720368547758.07", "92233720368547758.08", "-92233720368547758.08", "-92233720368547758.09", "184467440737095516.15", "184467440737095516.16", "184467440737095517.16", "340282366920938463463374607431768211456.00",
		strings.Repeat("0", 100000) + ".00", strings.Repeat("9", 100000) + ".00", strings.Repeat("-", 100000), strings.Repeat(".", 100000),
	} {
		if n, err := money.Parse(s); n != 0 || err != api.ErrSyntax {
			t.Errorf("Parse(%q) = %d, %d, want ErrSyntax", s, n, err)
		}
	}
}

// Every text of up to six of these bytes is accepted exactly if an amount has it.
func TestParseOfShortTexts(t *testing.T) {
	texts := map[string]int{}
	for n := -99999; n <= 999999; n++ {
		texts[money.Format(n)] = n
	}
	var extend func(s string)
	extend = func(s string) {
		want, ok := texts[s]
		n, err := money.Parse(s)
		if ok != (err == api.OK) || !ok && err != api.ErrSyntax || n != want {
			t.Errorf("Parse(%q) = %d, %d, want %d and %t", s, n, err, want, ok)
		}
		if len(s) == 6 {
			return
		}
		for _, b := range []byte("-+.0129 ") {
			extend(s + string(b))
		}
	}
	extend("")
}

// P2.4

func TestModesAgree(t *testing.T) {
	factors := []int{1, 2, 3, 6, 7, 11, 1000, api.Million - 1, most / 7, most}
	for _, a := range amounts {
		for _, n := range factors {
			for _, d := range factors {
				checkModesAgree(t, a, n, d)
			}
		}
	}
}

func checkModesAgree(t *testing.T, a, n, d int) {
	down, err := money.Scale(a, n, d, exact.Down)
	if err != api.OK {
		return
	}
	up, err := money.Scale(a, n, d, exact.Up)
	if err != api.OK {
		return
	}
	if diff := up - down; diff < -1 || diff > 1 {
		t.Errorf("Scale(%d, %d, %d) rounds to %d and %d", a, n, d, down, up)
	}
	for _, m := range []exact.Mode{exact.HalfUp, exact.HalfEven} {
		if q, e := money.Scale(a, n, d, m); e != api.OK || q != down && q != up {
			t.Errorf("Scale(%d, %d, %d, %d) = %d, %d, want %d or %d", a, n, d, m, q, e, down, up)
		}
	}
}
