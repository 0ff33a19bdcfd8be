package exact_test

import (
	"math"
	"math/big"
	"testing"

	"customs/api"
	"customs/exact"
)

const top = math.MaxUint64

// words are numbers around the edges of 0, 2^32, 2^63 and 2^64, and some ordinary ones.
var words = []uint64{0, 1, 2, 3, 5, 6, 10, 97, 1000000, 1<<32 - 1, 1 << 32, 1<<32 + 1, 1<<63 - 1, 1 << 63, 1<<63 + 1, top - 2, top - 1, top}

var modes = []exact.Mode{exact.Down, exact.Up, exact.HalfUp, exact.HalfEven}

func wideWords() []exact.Wide {
	var l []exact.Wide
	for _, hi := range words {
		for _, lo := range words {
			l = append(l, exact.Wide{Hi: hi, Lo: lo})
		}
	}
	return l
}

func number(n uint64) *big.Int { return new(big.Int).SetUint64(n) }

func wideNumber(w exact.Wide) *big.Int {
	n := new(big.Int).Lsh(number(w.Hi), 64)
	return n.Add(n, number(w.Lo))
}

func product(a, b uint64) *big.Int { return new(big.Int).Mul(number(a), number(b)) }

// rounded returns w / c, rounded by the definitions of the modes: from the floor, the ceiling, and twice the distance to the floor.
func rounded(w *big.Int, c uint64, m exact.Mode) *big.Int {
	floor, rest := new(big.Int).QuoRem(w, number(c), new(big.Int))
	if rest.Sign() == 0 {
		return floor
	}
	ceiling := new(big.Int).Add(floor, big.NewInt(1))
	nearer := new(big.Int).Lsh(rest, 1).Cmp(number(c))
	switch {
	case m == exact.Down, m != exact.Up && nearer < 0:
		return floor
	case m == exact.HalfEven && nearer == 0 && floor.Bit(0) == 0:
		return floor
	}
	return ceiling
}

// P1.1

func TestMul(t *testing.T) {
	for _, x := range []struct {
		a, b uint64
		want exact.Wide
	}{
		{6, 7, exact.Wide{Lo: 42}},
		{0, top, exact.Wide{}},
		{1, top, exact.Wide{Lo: top}},
		{1 << 32, 1<<32 - 1, exact.Wide{Lo: top - 1<<32 + 1}},
		{1 << 32, 1 << 32, exact.Wide{Hi: 1}},
		{1 << 63, 2, exact.Wide{Hi: 1}},
		{1 << 63, 3, exact.Wide{Hi: 1, Lo: 1 << 63}},
		{top, 2, exact.Wide{Hi: 1, Lo: top - 1}},
		{top, top, exact.Wide{Hi: top - 1, Lo: 1}},
	} {
		if w := exact.Mul(x.a, x.b); w != x.want {
			t.Errorf("Mul(%d, %d) = %v, want %v", x.a, x.b, w, x.want)
		}
	}
	for _, a := range words {
		for _, b := range words {
			if w := exact.Mul(a, b); wideNumber(w).Cmp(product(a, b)) != 0 {
				t.Errorf("Mul(%d, %d) = %v", a, b, w)
			}
		}
	}
}

func TestAdd(t *testing.T) {
	for _, x := range []struct {
		a, b, want exact.Wide
		err        api.Errno
	}{
		{exact.Wide{Lo: 2}, exact.Wide{Lo: 3}, exact.Wide{Lo: 5}, api.OK},
		{exact.Wide{Lo: top}, exact.Wide{Lo: 1}, exact.Wide{Hi: 1}, api.OK},
		{exact.Wide{Hi: 4, Lo: 1 << 63}, exact.Wide{Hi: 5, Lo: 1 << 63}, exact.Wide{Hi: 10}, api.OK},
		{exact.Wide{Hi: top, Lo: top}, exact.Wide{}, exact.Wide{Hi: top, Lo: top}, api.OK},
		{exact.Wide{Hi: top - 1, Lo: top}, exact.Wide{Lo: 1}, exact.Wide{Hi: top}, api.OK},
		{exact.Wide{Hi: top, Lo: top}, exact.Wide{Lo: 1}, exact.Wide{}, api.ErrOverflow},
		{exact.Wide{Hi: 1 << 63}, exact.Wide{Hi: 1 << 63}, exact.Wide{}, api.ErrOverflow},
		{exact.Wide{Hi: 1 << 63, Lo: 7}, exact.Wide{Hi: 1 << 63}, exact.Wide{}, api.ErrOverflow},
		{exact.Wide{Hi: top, Lo: top}, exact.Wide{Hi: top, Lo: top}, exact.Wide{}, api.ErrOverflow},
	} {
		if w, err := exact.Add(x.a, x.b); w != x.want || err != x.err {
			t.Errorf("Add(%v, %v) = %v, %d, want %v, %d", x.a, x.b, w, err, x.want, x.err)
		}
	}
	l := wideWords()
	for _, a := range l {
		for _, b := range l {
			checkAdd(t, a, b)
		}
	}
}

func checkAdd(t *testing.T, a, b exact.Wide) {
	t.Helper()
	want := new(big.Int).Add(wideNumber(a), wideNumber(b))
	w, err := exact.Add(a, b)
	if want.BitLen() > 128 {
		if w != (exact.Wide{}) || err != api.ErrOverflow {
			t.Errorf("Add(%v, %v) = %v, %d, want ErrOverflow", a, b, w, err)
		}
		return
	}
	if wideNumber(w).Cmp(want) != 0 || err != api.OK {
		t.Errorf("Add(%v, %v) = %v, %d, want %v", a, b, w, err, want)
	}
}

func TestCompareWide(t *testing.T) {
	l := wideWords()
	for _, a := range l {
		for _, b := range l {
			if got, want := exact.CompareWide(a, b), wideNumber(a).Cmp(wideNumber(b)); got != want {
				t.Errorf("CompareWide(%v, %v) = %d, want %d", a, b, got, want)
			}
		}
	}
}

// P1.2

func TestModes(t *testing.T) {
	if exact.Down != 0 || exact.Up != 1 || exact.HalfUp != 2 || exact.HalfEven != 3 {
		t.Error("the modes are", modes)
	}
}

func TestRounding(t *testing.T) {
	for _, x := range []struct {
		a, b, c uint64
		want    [4]uint64 // by mode
	}{
		{0, 0, 1, [4]uint64{0, 0, 0, 0}},
		{0, top, top, [4]uint64{0, 0, 0, 0}},
		{6, 7, 3, [4]uint64{14, 14, 14, 14}},
		{1, 1, 2, [4]uint64{0, 1, 1, 0}},
		{3, 1, 2, [4]uint64{1, 2, 2, 2}},
		{5, 1, 2, [4]uint64{2, 3, 3, 2}},
		{7, 1, 2, [4]uint64{3, 4, 4, 4}},
		{10, 1, 3, [4]uint64{3, 4, 3, 3}},
		{11, 1, 3, [4]uint64{3, 4, 4, 4}},
		{1, 1, top, [4]uint64{0, 1, 0, 0}},
		{top - 1, 1, top, [4]uint64{0, 1, 1, 1}},
		{1<<63 - 1, 1, top, [4]uint64{0, 1, 0, 0}},
		{1 << 63, 1, top, [4]uint64{0, 1, 1, 1}},
		{1 << 62, 1, 1 << 63, [4]uint64{0, 1, 1, 0}},
		{1 << 62, 3, 1 << 63, [4]uint64{1, 2, 2, 2}},
		{1 << 63, 4, 8, [4]uint64{1 << 62, 1 << 62, 1 << 62, 1 << 62}},
		{top, 1, 2, [4]uint64{1<<63 - 1, 1 << 63, 1 << 63, 1 << 63}},
		{top, top, top, [4]uint64{top, top, top, top}},
		{top, top - 1, top, [4]uint64{top - 1, top - 1, top - 1, top - 1}},
	} {
		for _, m := range modes {
			if n, err := exact.MulDiv(x.a, x.b, x.c, m); n != x.want[m] || err != api.OK {
				t.Errorf("MulDiv(%d, %d, %d, %d) = %d, %d, want %d", x.a, x.b, x.c, m, n, err, x.want[m])
			}
		}
	}
}

// The quotients lie around 2^64, so that the rounding decides whether there is an overflow.
func TestDivOverflow(t *testing.T) {
	over := api.ErrOverflow
	for _, x := range []struct {
		w    exact.Wide
		c    uint64
		want [4]api.Errno // by mode; where it is OK, the quotient is 2^64 - 1
	}{
		{exact.Wide{Lo: top}, 1, [4]api.Errno{}},
		{exact.Wide{Hi: 1}, 1, [4]api.Errno{over, over, over, over}},
		{exact.Wide{Hi: 1, Lo: top - 1}, 2, [4]api.Errno{}},
		{exact.Wide{Hi: 1, Lo: top}, 2, [4]api.Errno{api.OK, over, over, over}},
		{exact.Wide{Hi: 2}, 2, [4]api.Errno{over, over, over, over}},
		{exact.Wide{Hi: 2, Lo: top - 1}, 3, [4]api.Errno{api.OK, over, api.OK, api.OK}},
		{exact.Wide{Hi: 2, Lo: top}, 3, [4]api.Errno{api.OK, over, over, over}},
		{exact.Wide{Hi: top - 1, Lo: 1}, top, [4]api.Errno{}},
		{exact.Wide{Hi: top, Lo: 0}, top, [4]api.Errno{over, over, over, over}},
		{exact.Wide{Hi: top, Lo: top}, 1, [4]api.Errno{over, over, over, over}},
	} {
		for _, m := range modes {
			want := uint64(top)
			if x.want[m] != api.OK {
				want = 0
			}
			if n, err := exact.Div(x.w, x.c, m); n != want || err != x.want[m] {
				t.Errorf("Div(%v, %d, %d) = %d, %d, want %d, %d", x.w, x.c, m, n, err, want, x.want[m])
			}
		}
	}
}

// All these quotients would overflow, or be divided by 0: ErrRange comes first.
func TestDivRange(t *testing.T) {
	for _, w := range []exact.Wide{{}, {Lo: 7}, {Hi: 1}, {Hi: top, Lo: top}} {
		for _, m := range []exact.Mode{math.MinInt, -1, 4, 5, math.MaxInt} {
			for _, c := range []uint64{0, 1, 2, top} {
				if n, err := exact.Div(w, c, m); n != 0 || err != api.ErrRange {
					t.Errorf("Div(%v, %d, %d) = %d, %d, want ErrRange", w, c, m, n, err)
				}
			}
			if n, err := exact.MulDiv(top, top, 1, m); n != 0 || err != api.ErrRange {
				t.Errorf("MulDiv with mode %d = %d, %d, want ErrRange", m, n, err)
			}
		}
		for _, m := range modes {
			if n, err := exact.Div(w, 0, m); n != 0 || err != api.ErrRange {
				t.Errorf("Div(%v, 0, %d) = %d, %d, want ErrRange", w, m, n, err)
			}
			if n, err := exact.MulDiv(w.Hi, w.Lo, 0, m); n != 0 || err != api.ErrRange {
				t.Errorf("MulDiv by 0 with mode %d = %d, %d, want ErrRange", m, n, err)
			}
		}
	}
}

func TestDivAgainstDefinition(t *testing.T) {
	for _, w := range wideWords() {
		for _, c := range words[1:] {
			for _, m := range modes {
				checkDiv(t, w, c, m)
			}
		}
	}
	for n := range uint64(60) {
		for c := range uint64(12) {
			for _, m := range modes {
				checkDiv(t, exact.Wide{Lo: n}, c+1, m)
			}
		}
	}
}

func checkDiv(t *testing.T, w exact.Wide, c uint64, m exact.Mode) {
	t.Helper()
	want := rounded(wideNumber(w), c, m)
	n, err := exact.Div(w, c, m)
	if !want.IsUint64() {
		if n != 0 || err != api.ErrOverflow {
			t.Errorf("Div(%v, %d, %d) = %d, %d, want ErrOverflow", w, c, m, n, err)
		}
		return
	}
	if n != want.Uint64() || err != api.OK {
		t.Errorf("Div(%v, %d, %d) = %d, %d, want %v", w, c, m, n, err, want)
	}
}

func TestMulDivIsDivOfMul(t *testing.T) {
	for _, a := range words {
		for _, b := range words {
			for _, c := range words {
				for _, m := range []exact.Mode{-1, 0, 1, 2, 3, 4} {
					n, err := exact.MulDiv(a, b, c, m)
					want, wantErr := exact.Div(exact.Mul(a, b), c, m)
					if n != want || err != wantErr {
						t.Errorf("MulDiv(%d, %d, %d, %d) = %d, %d, want %d, %d", a, b, c, m, n, err, want, wantErr)
					}
				}
			}
		}
	}
}

func TestMulMod(t *testing.T) {
	for _, x := range [][4]uint64{
		{7, 8, 5, 1}, {7, 8, 7, 0}, {3, 4, 0, 0}, {top, top, 0, 0}, {0, 0, 0, 0}, {3, 4, 1, 0},
		{1 << 63, 2, 3, 1}, {1 << 32, 1 << 32, top, 1}, {top, top, 10, 5}, {top, top, top - 1, 1}, {top - 1, top - 1, top, 1},
	} {
		if n := exact.MulMod(x[0], x[1], x[2]); n != x[3] {
			t.Errorf("MulMod(%d, %d, %d) = %d, want %d", x[0], x[1], x[2], n, x[3])
		}
	}
	for _, a := range words {
		for _, b := range words {
			for _, c := range words[1:] {
				want := new(big.Int).Mod(product(a, b), number(c)).Uint64()
				if n := exact.MulMod(a, b, c); n != want {
					t.Errorf("MulMod(%d, %d, %d) = %d, want %d", a, b, c, n, want)
				}
			}
		}
	}
}

// P1.3

func TestCompare(t *testing.T) {
	for _, x := range []struct {
		a, b, c, d uint64
		want       int
	}{
		{1, 2, 2, 4, 0}, {1, 3, 1, 2, -1}, {2, 3, 3, 5, 1},
		{5, 0, 5, 1, 0}, {5, 0, 4, 1, 1}, {5, 0, 6, 0, -1}, {5, 1, 6, 0, -1},
		{0, 0, 0, 7, 0}, {0, 9, 0, 0, 0}, {0, 1, 1, top, -1},
		{top, top, 1, 1, 0}, {top, 1, top, 2, 1}, {top - 1, top, top, top, -1},
		{top - 1, top, top - 2, top - 1, 1},
	} {
		if exact.Compare(x.a, x.b, x.c, x.d) != x.want || exact.Compare(x.c, x.d, x.a, x.b) != -x.want {
			t.Error("Compare", x)
		}
	}
	for _, a := range words {
		for _, b := range words {
			for _, c := range words {
				for _, d := range words {
					checkCompare(t, a, b, c, d)
				}
			}
		}
	}
}

func checkCompare(t *testing.T, a, b, c, d uint64) {
	t.Helper()
	want := product(a, max(d, 1)).Cmp(product(c, max(b, 1)))
	if got := exact.Compare(a, b, c, d); got != want {
		t.Errorf("Compare(%d, %d, %d, %d) = %d, want %d", a, b, c, d, got, want)
	}
}

func TestGcd(t *testing.T) {
	for _, x := range [][3]uint64{
		{12, 18, 6}, {18, 12, 6}, {7, 9, 1}, {0, 5, 5}, {5, 0, 5}, {0, 0, 0},
		{0, top, top}, {top, 0, top}, {top, top, top}, {top, top - 1, 1}, {1 << 63, 1 << 40, 1 << 40}, {top, 1<<32 - 1, 1<<32 - 1},
	} {
		if g := exact.Gcd(x[0], x[1]); g != x[2] {
			t.Errorf("Gcd(%d, %d) = %d, want %d", x[0], x[1], g, x[2])
		}
	}
	for a := range uint64(40) {
		for b := range uint64(40) {
			if g, want := exact.Gcd(a, b), greatestDivisor(a, b); g != want {
				t.Errorf("Gcd(%d, %d) = %d, want %d", a, b, g, want)
			}
		}
	}
}

// greatestDivisor tries all numbers from the greatest one that may divide both a and b.
func greatestDivisor(a, b uint64) uint64 {
	for d := max(a, b); d > 0; d-- {
		if a%d == 0 && b%d == 0 {
			return d
		}
	}
	return 0
}

func TestReduce(t *testing.T) {
	for _, x := range [][4]uint64{
		{12, 18, 2, 3}, {18, 12, 3, 2}, {3, 7, 3, 7}, {7, 7, 1, 1},
		{6, 0, 6, 1}, {top, 0, top, 1}, {0, 5, 0, 1}, {0, top, 0, 1}, {0, 0, 0, 1},
		{top, top, 1, 1}, {top, 1<<32 - 1, 1<<32 + 1, 1}, {1 << 63, 1 << 62, 2, 1}, {top - 1, top, top - 1, top},
	} {
		if a, b := exact.Reduce(x[0], x[1]); a != x[2] || b != x[3] {
			t.Errorf("Reduce(%d, %d) = %d, %d, want %d, %d", x[0], x[1], a, b, x[2], x[3])
		}
	}
	for _, a := range words {
		for _, b := range words {
			n, d := exact.Reduce(a, b)
			if d == 0 || exact.Gcd(n, d) != 1 || product(n, max(b, 1)).Cmp(product(a, d)) != 0 {
				t.Errorf("Reduce(%d, %d) = %d, %d", a, b, n, d)
			}
		}
	}
}

// P1.4

func TestQuotientAndRemainder(t *testing.T) {
	checked := 0
	for _, a := range words {
		for _, b := range words {
			for _, c := range words[1:] {
				q, err := exact.MulDiv(a, b, c, exact.Down)
				if err != api.OK {
					continue
				}
				checked++
				r := exact.MulMod(a, b, c)
				sum, err := exact.Add(exact.Mul(q, c), exact.Wide{Lo: r})
				if r >= c || err != api.OK || sum != exact.Mul(a, b) {
					t.Errorf("%d * %d is not %d * %d + %d", a, b, q, c, r)
				}
			}
		}
	}
	// Without this, a MulDiv that always fails would pass.
	if checked < 1000 {
		t.Error("only", checked, "quotients")
	}
}
