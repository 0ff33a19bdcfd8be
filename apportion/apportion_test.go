package apportion_test

import (
	"math"
	"math/big"
	"slices"
	"testing"

	"customs/api"
	"customs/apportion"
)

const most = api.MaxAmount

// strangers are numbers that are neither totals nor weights.
var strangers = []int{math.MinInt, math.MinInt + 1, -most - 1, -most, -2, -1, most + 1, 2 * most, math.MaxInt - 1, math.MaxInt}

// mixed are lists of weights with the edges of their range, with equal ones and with sums that are no amounts.
var mixed = [][]int{
	{1}, {0}, {most},
	{0, 0}, {0, 1}, {1, 0}, {1, 1}, {most, most}, {most, 1}, {1, most}, {most - 1, most}, {0, most, 0},
	{0, 0, 0}, {1, 1, 1}, {1, 2, 3}, {3, 2, 1}, {7, 0, 7}, {most, 0, most}, {most, most, most}, {most, most - 1, most - 2}, {1, 2, most},
	{333333333333, 333333333333, 333333333334}, {most / 3, most / 7, most / 11, most / 13},
	{5, 5, 5, 5, 5, 5, 5}, {2, 4, 2, 4, 2, 4}, {9, 1, 9, 1, 0, 9}, {123456789, 987654321, 555555555555, 1, 0, 31337},
}

var totals = []int{0, 1, 2, 3, 5, 6, 7, 10, 99, 100, 101, 12345, 999999, 1 << 32, 1<<32 + 1, most / 3, most / 2, most - 1, most}

// many returns n elements, of which element i is f(i).
func many(n int, f func(i int) int) []int {
	l := make([]int, n)
	for i := range l {
		l[i] = f(i)
	}
	return l
}

func sum(l []int) int {
	n := 0
	for _, x := range l {
		n += x
	}
	return n
}

func negated(l []int) []int {
	return many(len(l), func(i int) int { return -l[i] })
}

// expectedShare computes P3.1 by its words, for valid arguments with weights, without a bound on any product.
func expectedShare(total int, weights []int) []int {
	if sum(weights) == 0 {
		weights = many(len(weights), func(int) int { return 1 })
	}
	w := big.NewInt(int64(sum(weights)))
	parts := make([]int, len(weights))
	rests := make([]*big.Int, len(weights))
	for i := range weights {
		product := new(big.Int).Mul(big.NewInt(int64(total)), big.NewInt(int64(weights[i])))
		q, r := product.QuoRem(product, w, new(big.Int))
		parts[i], rests[i] = int(q.Int64()), r
	}
	given := make([]bool, len(weights))
	for left := total - sum(parts); left > 0; left-- {
		best := -1
		for i := range weights {
			if !given[i] && (best < 0 || rests[i].Cmp(rests[best]) > 0) {
				best = i
			}
		}
		parts[best]++
		given[best] = true
	}
	return parts
}

// P3.1

func TestShare(t *testing.T) {
	for _, x := range []struct {
		total         int
		weights, want []int
	}{
		{100, []int{1, 1, 1}, []int{34, 33, 33}},
		{2, []int{0, 0, 0}, []int{1, 1, 0}},
		{0, nil, nil},
		{0, []int{}, nil},
		{0, []int{0}, []int{0}},
		{0, []int{3, 0, 5}, []int{0, 0, 0}},
		{0, []int{0, 0}, []int{0, 0}},
		{7, []int{0}, []int{7}},
		{7, []int{5}, []int{7}},
		{most, []int{1}, []int{most}},
		{most, []int{most}, []int{most}},
		{most, []int{0}, []int{most}},
		// All weights are 0, or only some are.
		{3, []int{0, 0, 0}, []int{1, 1, 1}},
		{5, []int{0, 0, 0}, []int{2, 2, 1}},
		{5, []int{0, 2, 0}, []int{0, 5, 0}},
		{5, []int{0, 1, 1}, []int{0, 3, 2}},
		// The greatest remainder is neither the first one nor that of the greatest weight.
		{10, []int{6, 5, 2}, []int{5, 4, 1}},      // 60/13, 50/13, 20/13
		{3, []int{5, 4, 1}, []int{2, 1, 0}},       // 15/10, 12/10, 3/10
		{1, []int{1, 2, 4}, []int{0, 0, 1}},       // 1/7, 2/7, 4/7
		{10, []int{1, 2, 4}, []int{1, 3, 6}},      // 10/7, 20/7, 40/7
		{11, []int{1, 2, 4}, []int{2, 3, 6}},      // 11/7, 22/7, 44/7
		{8, []int{30, 31}, []int{4, 4}},           // 240/61, 248/61
		{9, []int{30, 31}, []int{4, 5}},           // 270/61, 279/61
		{10, []int{3, 3, 1}, []int{4, 4, 2}},      // 30/7, 30/7, 10/7: the third one, then the first one
		{4, []int{1, 3, 3}, []int{0, 2, 2}},       // 4/7, 12/7, 12/7: the second one and the third one
		{4, []int{1, 2, 1, 2}, []int{1, 1, 1, 1}}, // 4/6, 8/6, 4/6, 8/6: the first one and the third one
		// Of equal remainders the smaller indexes come first, even with other weights.
		{1, []int{1, 1}, []int{1, 0}},
		{1, []int{most, most}, []int{1, 0}},
		{2, []int{1, 1, 1, 1}, []int{1, 1, 0, 0}},
		{2, []int{1, 3}, []int{1, 1}}, // 2/4, 6/4
		{2, []int{3, 1}, []int{2, 0}}, // 6/4, 2/4
		{3, []int{1, 5}, []int{1, 2}}, // 3/6, 15/6
		{3, []int{5, 1}, []int{3, 0}}, // 15/6, 3/6
		// The parts are exact.
		{12, []int{1, 2, 3}, []int{2, 4, 6}},
		{6, []int{most, 0, most}, []int{3, 0, 3}},
		// The products are above 2^64, or the sum is no amount.
		{most, []int{most, most, most}, []int{333333333334, 333333333333, 333333333333}},
		{most, []int{1, most - 1}, []int{1, most - 1}},
		{most, []int{1, most}, []int{1, most - 1}}, // the first part is 1 - 1/(most + 1)
		{most, []int{most, 1}, []int{most - 1, 1}},
		{most / 2, []int{1, most}, []int{0, most / 2}},
		{most/2 + 1, []int{1, most}, []int{1, most / 2}},
	} {
		if l, err := apportion.Share(x.total, x.weights); !slices.Equal(l, x.want) || err != api.OK {
			t.Errorf("Share(%d, %v) = %v, %d, want %v", x.total, x.weights, l, err, x.want)
		}
	}
}

func checkShare(t *testing.T, total int, weights []int) {
	t.Helper()
	want := expectedShare(total, weights)
	if l, err := apportion.Share(total, weights); !slices.Equal(l, want) || err != api.OK {
		t.Errorf("Share(%d, %v) = %v, %d, want %v", total, weights, l, err, want)
	}
}

// eachList calls f with each list of 1 to n weights from 0 to top.
func eachList(n, top int, f func(l []int)) {
	var extend func(l []int)
	extend = func(l []int) {
		if len(l) > 0 {
			f(l)
		}
		for w := 0; len(l) < n && w <= top; w++ {
			extend(append(slices.Clone(l), w))
		}
	}
	extend(nil)
}

func TestShareOfSmallTotals(t *testing.T) {
	eachList(4, 5, func(l []int) {
		for total := range 14 {
			checkShare(t, total, l)
		}
	})
}

func TestShareOfLargeTotals(t *testing.T) {
	for _, l := range mixed {
		for _, total := range totals {
			checkShare(t, total, l)
		}
	}
}

func TestShareOfManyWeights(t *testing.T) {
	for _, f := range []func(i int) int{
		func(int) int { return 0 },
		func(int) int { return 1 },
		func(int) int { return most },
		func(i int) int { return i },
		func(i int) int { return most - i },
		func(i int) int { return i % 3 },
		func(i int) int { return i * i * 1000003 % 99991 },
		func(i int) int { return (i*i + 7) * 999999937 % (most + 1) },
	} {
		for _, n := range []int{999, 1000} {
			l := many(n, f)
			for _, total := range []int{0, 1, 499, 500, 999, 1000, 1001, 123457, most - 1, most} {
				checkShare(t, total, l)
			}
		}
	}
}

func TestShareErrors(t *testing.T) {
	thousand := many(1000, func(int) int { return 1 })
	above := append(slices.Clone(thousand), 1)
	strange := append(slices.Clone(thousand), -1)
	for _, x := range []struct {
		total   int
		weights []int
		want    api.Errno
	}{
		{5, thousand, api.OK},
		{5, above, api.ErrLimit},
		{0, above, api.ErrLimit},
		{0, make([]int, 1001), api.ErrLimit},
		{5, make([]int, 5000), api.ErrLimit},
		// ErrLimit comes before ErrRange.
		{-1, above, api.ErrLimit},
		{most + 1, above, api.ErrLimit},
		{5, strange, api.ErrLimit},
		{-1, strange, api.ErrLimit},
		// ErrNone is for totals in their range only.
		{0, nil, api.OK},
		{1, nil, api.ErrNone},
		{1, []int{}, api.ErrNone},
		{most, nil, api.ErrNone},
		{most + 1, nil, api.ErrRange},
		{-1, nil, api.ErrRange},
		{-most, []int{}, api.ErrRange},
	} {
		l, err := apportion.Share(x.total, x.weights)
		if err != x.want || err != api.OK && l != nil {
			t.Errorf("Share(%d, %d weights) = %v, %d, want the error %d", x.total, len(x.weights), l, err, x.want)
		}
	}
}

// A stranger is an error as a total and as a weight, wherever it is, and whatever the sums are.
func TestShareOutOfRange(t *testing.T) {
	for _, n := range strangers {
		for _, l := range [][]int{nil, {0}, {1}, {0, 0}, {most, most}, {1, 2, 3}, {n}} {
			if p, err := apportion.Share(n, l); p != nil || err != api.ErrRange {
				t.Errorf("Share(%d, %v) = %v, %d, want ErrRange", n, l, p, err)
			}
		}
		for _, l := range [][]int{{n}, {n, 1}, {1, n}, {0, n, 0}, {n, -n}, {-n, n}, {n, n}, {most, most, n}} {
			for _, total := range []int{0, 1, most} {
				if p, err := apportion.Share(total, l); p != nil || err != api.ErrRange {
					t.Errorf("Share(%d, %v) = %v, %d, want ErrRange", total, l, p, err)
				}
			}
		}
		last := many(1000, func(int) int { return 1 })
		last[999] = n
		if p, err := apportion.Share(1, last); p != nil || err != api.ErrRange {
			t.Errorf("Share with the last weight %d = %v, %d, want ErrRange", n, p, err)
		}
	}
}

// P3.2

func TestSpread(t *testing.T) {
	for _, x := range []struct {
		total         int
		weights, want []int
	}{
		{100, []int{1, 1, 1}, []int{34, 33, 33}},
		{-100, []int{1, 1, 1}, []int{-34, -33, -33}},
		{-2, []int{0, 0, 0}, []int{-1, -1, 0}},
		{-10, []int{3, 3, 1}, []int{-4, -4, -2}},
		{-1, []int{0, 1}, []int{0, -1}},
		{0, []int{0, 1}, []int{0, 0}},
		{0, nil, nil},
		{-most, []int{1}, []int{-most}},
		{-most, []int{most, most, most}, []int{-333333333334, -333333333333, -333333333333}},
		{1 - most, []int{1, 1}, []int{-most / 2, 1 - most/2}},
	} {
		if l, err := apportion.Spread(x.total, x.weights); !slices.Equal(l, x.want) || err != api.OK {
			t.Errorf("Spread(%d, %v) = %v, %d, want %v", x.total, x.weights, l, err, x.want)
		}
	}
}

func TestSpreadOfBothSigns(t *testing.T) {
	check := func(total int, weights []int) {
		want := expectedShare(total, weights)
		if l, err := apportion.Spread(total, weights); !slices.Equal(l, want) || err != api.OK {
			t.Errorf("Spread(%d, %v) = %v, %d, want %v", total, weights, l, err, want)
		}
		want = negated(want)
		if l, err := apportion.Spread(-total, weights); !slices.Equal(l, want) || err != api.OK {
			t.Errorf("Spread(%d, %v) = %v, %d, want %v", -total, weights, l, err, want)
		}
	}
	for _, l := range mixed {
		for _, total := range totals {
			check(total, l)
		}
	}
	eachList(3, 3, func(l []int) {
		for total := range 8 {
			check(total, l)
		}
	})
}

func TestSpreadErrors(t *testing.T) {
	above := make([]int, 1001)
	for _, x := range []struct {
		total   int
		weights []int
		want    api.Errno
	}{
		{most, []int{1}, api.OK},
		{-most, []int{1}, api.OK},
		{0, nil, api.OK},
		{1, nil, api.ErrNone},
		{-1, nil, api.ErrNone},
		{-1, []int{}, api.ErrNone},
		{most, nil, api.ErrNone},
		{-most, nil, api.ErrNone},
		{most + 1, nil, api.ErrRange},
		{-most - 1, nil, api.ErrRange},
		{most + 1, []int{1}, api.ErrRange},
		{-most - 1, []int{1}, api.ErrRange},
		{math.MaxInt, []int{1}, api.ErrRange},
		{-math.MaxInt, []int{1}, api.ErrRange},
		{math.MinInt, []int{1}, api.ErrRange},
		{math.MinInt, nil, api.ErrRange},
		// A weight may not be negative, whatever the total is.
		{-5, []int{1, -1}, api.ErrRange},
		{-5, []int{-1, -1}, api.ErrRange},
		{5, []int{-1, -1}, api.ErrRange},
		{0, []int{-1}, api.ErrRange},
		{-5, []int{most + 1}, api.ErrRange},
		{-5, []int{1, math.MinInt}, api.ErrRange},
		{5, above, api.ErrLimit},
		{-5, above, api.ErrLimit},
		{math.MinInt, above, api.ErrLimit},
		{math.MaxInt, above, api.ErrLimit},
	} {
		l, err := apportion.Spread(x.total, x.weights)
		if err != x.want || err != api.OK && l != nil {
			t.Errorf("Spread(%d, %d weights) = %v, %d, want the error %d", x.total, len(x.weights), l, err, x.want)
		}
	}
}

// P3.3

func TestCap(t *testing.T) {
	for _, x := range []struct {
		available      int
		requests, want []int
	}{
		{10, []int{4, 16}, []int{2, 8}},
		{20, []int{4, 16}, []int{4, 16}},
		{21, []int{4, 16}, []int{4, 16}},
		{19, []int{4, 16}, []int{4, 15}}, // 76/20, 304/20
		{most, []int{4, 16}, []int{4, 16}},
		{0, []int{4, 16}, []int{0, 0}},
		{0, nil, nil},
		{7, nil, nil},
		{7, []int{}, nil},
		{most, nil, nil},
		// Requests of 0 get 0, though weights of 0 count as 1 in Share.
		{0, []int{0, 0}, []int{0, 0}},
		{7, []int{0, 0}, []int{0, 0}},
		{7, []int{0}, []int{0}},
		{7, []int{0, 8}, []int{0, 7}},
		{7, []int{9}, []int{7}},
		{7, []int{7}, []int{7}},
		{1, []int{1, 1}, []int{1, 0}},
		// The sum of the requests is no amount.
		{most, []int{most, most}, []int{most / 2, most / 2}},
		{most, []int{most, 1}, []int{most - 1, 1}},
		{most, []int{most - 1, 1}, []int{most - 1, 1}},
		{3, []int{most, most}, []int{2, 1}},
		{0, []int{most, most}, []int{0, 0}},
	} {
		if l, err := apportion.Cap(x.available, x.requests); !slices.Equal(l, x.want) || err != api.OK {
			t.Errorf("Cap(%d, %v) = %v, %d, want %v", x.available, x.requests, l, err, x.want)
		}
	}
}

func checkCap(t *testing.T, available int, requests []int) {
	t.Helper()
	want := requests
	if sum(requests) > available {
		want = expectedShare(available, requests)
	}
	if l, err := apportion.Cap(available, requests); !slices.Equal(l, want) || err != api.OK {
		t.Errorf("Cap(%d, %v) = %v, %d, want %v", available, requests, l, err, want)
	}
}

func TestCapOfManyLists(t *testing.T) {
	for _, l := range mixed {
		for _, available := range totals {
			checkCap(t, available, l)
		}
	}
	eachList(4, 3, func(l []int) {
		for available := range 14 {
			checkCap(t, available, l)
		}
	})
	checkCap(t, most, many(1000, func(int) int { return most / 1000 }))
	checkCap(t, most-1, many(1000, func(int) int { return most / 1000 }))
	checkCap(t, most, many(1000, func(int) int { return most }))
}

func TestCapErrors(t *testing.T) {
	above := make([]int, 1001)
	for _, x := range []struct {
		available int
		requests  []int
		want      api.Errno
	}{
		{0, make([]int, 1000), api.OK},
		{0, above, api.ErrLimit},
		{5, above, api.ErrLimit},
		{-1, above, api.ErrLimit},
		{most + 1, append(slices.Clone(above), -1), api.ErrLimit},
		// No requests are no error, but available is examined.
		{0, nil, api.OK},
		{5, []int{}, api.OK},
		{-1, nil, api.ErrRange},
		{most + 1, nil, api.ErrRange},
		// The sum is at most available, or above it.
		{5, []int{-1, 3}, api.ErrRange},
		{5, []int{-1, 30}, api.ErrRange},
		{most, []int{most + 1}, api.ErrRange},
		{0, []int{0, most + 1}, api.ErrRange},
	} {
		l, err := apportion.Cap(x.available, x.requests)
		if err != x.want || err != api.OK && l != nil {
			t.Errorf("Cap(%d, %d requests) = %v, %d, want the error %d", x.available, len(x.requests), l, err, x.want)
		}
	}
}

func TestCapOutOfRange(t *testing.T) {
	for _, n := range strangers {
		for _, l := range [][]int{nil, {0}, {1}, {most, most}, {n}} {
			if p, err := apportion.Cap(n, l); p != nil || err != api.ErrRange {
				t.Errorf("Cap(%d, %v) = %v, %d, want ErrRange", n, l, p, err)
			}
		}
		for _, l := range [][]int{{n}, {n, 1}, {1, n}, {n, -n}, {n, n}, {most, n, most}} {
			for _, available := range []int{0, 1, most} {
				if p, err := apportion.Cap(available, l); p != nil || err != api.ErrRange {
					t.Errorf("Cap(%d, %v) = %v, %d, want ErrRange", available, l, p, err)
				}
			}
		}
	}
}

// P3.4

// near tells whether part differs from total * weight / whole by less than 1.
func near(part, total, weight, whole int) bool {
	diff := new(big.Int).Mul(big.NewInt(int64(part)), big.NewInt(int64(whole)))
	diff.Sub(diff, new(big.Int).Mul(big.NewInt(int64(total)), big.NewInt(int64(weight))))
	return diff.CmpAbs(big.NewInt(int64(whole))) < 0
}

func checkSharesAddUp(t *testing.T, total int, weights []int) {
	t.Helper()
	l, err := apportion.Share(total, weights)
	if err != api.OK || len(l) != len(weights) || sum(l) != total {
		t.Errorf("Share(%d, %v) = %v, %d, which add up to %d", total, weights, l, err, sum(l))
		return
	}
	for i, w := range weights {
		whole := sum(weights)
		if whole == 0 {
			w, whole = 1, len(weights)
		}
		if l[i] < 0 || !near(l[i], total, w, whole) {
			t.Errorf("Share(%d, %v) = %v, of which element %d is too far off", total, weights, l, i)
		}
		if w == 0 && l[i] != 0 {
			t.Errorf("Share(%d, %v) = %v, where the weight %d is 0", total, weights, l, i)
		}
	}
}

func checkCapHolds(t *testing.T, available int, requests []int) {
	t.Helper()
	l, err := apportion.Cap(available, requests)
	if err != api.OK || len(l) != len(requests) || sum(l) != min(available, sum(requests)) {
		t.Errorf("Cap(%d, %v) = %v, %d, which add up to %d", available, requests, l, err, sum(l))
		return
	}
	for i, r := range requests {
		if l[i] < 0 || l[i] > r {
			t.Errorf("Cap(%d, %v) = %v, of which element %d is not 0 to its request", available, requests, l, i)
		}
	}
}

func TestPartsAddUp(t *testing.T) {
	check := func(total int, weights []int) {
		checkSharesAddUp(t, total, weights)
		checkCapHolds(t, total, weights)
	}
	for _, l := range mixed {
		for _, total := range totals {
			check(total, l)
		}
	}
	eachList(4, 4, func(l []int) {
		for total := range 12 {
			check(total, l)
		}
	})
	for _, total := range totals {
		check(total, many(1000, func(i int) int { return i * i % 997 }))
		check(total, many(1000, func(i int) int { return most - i%7 }))
	}
}

// R2

func TestArgumentsStay(t *testing.T) {
	for name, f := range map[string]func(int, []int) ([]int, api.Errno){"Share": apportion.Share, "Spread": apportion.Spread, "Cap": apportion.Cap} {
		for _, total := range []int{0, 3, 6, 7, 100} {
			l := []int{3, 0, 1, 2}
			parts, err := f(total, l)
			if err != api.OK || !slices.Equal(l, []int{3, 0, 1, 2}) {
				t.Errorf("%s(%d, {3, 0, 1, 2}) leaves %v, with the error %d", name, total, l, err)
			}
			again, _ := f(total, l)
			before := slices.Clone(again)
			for i := range parts {
				parts[i] = -99
			}
			if !slices.Equal(l, []int{3, 0, 1, 2}) || !slices.Equal(again, before) {
				t.Errorf("%s(%d, {3, 0, 1, 2}) shares its result", name, total)
			}
		}
	}
}
