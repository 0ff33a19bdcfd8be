package currency_test

import (
	"math"
	"math/big"
	"regexp"
	"slices"
	"strings"
	"testing"

	"customs/api"
	"customs/currency"
	"customs/exact"
)

const (
	last       = api.MaxDay
	most       = api.MaxAmount
	mostOfUnit = 1000 * api.Million
)

// noDays are numbers that are not days.
var noDays = []int{math.MinInt, math.MinInt + 1, math.MinInt32, -last, -2, -1, last + 1, last + 2, 2 * last, math.MaxInt32, math.MaxInt - 1, math.MaxInt}

// noAmounts are numbers that are no amounts.
var noAmounts = []int{math.MinInt, math.MinInt + 1, -2 * most, -most - 1, most + 1, 2 * most, math.MaxInt}

var modes = []exact.Mode{exact.Down, exact.Up, exact.HalfUp, exact.HalfEven}

var noModes = []exact.Mode{math.MinInt, -1, exact.HalfEven + 1, math.MaxInt}

// ordinary is a table with one rate, several rates, rates from the first and the last day, and the least and the greatest rate.
func ordinary() []api.Exchange {
	return []api.Exchange{
		{Currency: "AAA", From: 100, PerUnit: 1},
		{Currency: "EUQ", From: 0, PerUnit: 3},
		{Currency: "EUS", From: 0, PerUnit: 7},
		{Currency: "GBP", From: 0, PerUnit: 1170000},
		{Currency: "GBP", From: 1, PerUnit: 1180000},
		{Currency: "GBP", From: last, PerUnit: 1190000},
		{Currency: "JPY", From: 10, PerUnit: 6123},
		{Currency: "JPY", From: 20, PerUnit: 6124},
		{Currency: "JPY", From: 9820, PerUnit: 6122},
		{Currency: "USD", From: 0, PerUnit: 900000},
		{Currency: "USD", From: 10, PerUnit: 950000},
		{Currency: "XAU", From: 50, PerUnit: mostOfUnit},
		{Currency: "ZZZ", From: 0, PerUnit: api.Million},
	}
}

// ratesOf is a table of one currency with n rates, from the day 0 on.
func ratesOf(name string, n int) []api.Exchange {
	l := make([]api.Exchange, n)
	for i := range l {
		l[i] = api.Exchange{Currency: name, From: i, PerUnit: i + 1}
	}
	return l
}

// currencies is a table of n currencies, from AAA on, with one rate each.
func currencies(n int) []api.Exchange {
	l := make([]api.Exchange, n)
	for i := range l {
		l[i] = api.Exchange{Currency: nameOf(i), From: 7, PerUnit: i + 1}
	}
	return l
}

func nameOf(i int) string {
	return string([]byte{'A' + byte(i/676), 'A' + byte(i/26%26), 'A' + byte(i%26)})
}

// P5.1

// usd returns an element that is valid but for what it is given.
func usd(from, perUnit int) api.Exchange {
	return api.Exchange{Currency: "USD", From: from, PerUnit: perUnit}
}

func TestValidate(t *testing.T) {
	for i, x := range []struct {
		table []api.Exchange
		want  api.Errno
	}{
		{nil, api.OK},
		{[]api.Exchange{}, api.OK},
		{ordinary(), api.OK},
		{[]api.Exchange{usd(0, 1)}, api.OK},
		{[]api.Exchange{usd(last, mostOfUnit)}, api.OK},
		{[]api.Exchange{usd(-1, 1)}, api.ErrRange},
		{[]api.Exchange{usd(last+1, 1)}, api.ErrRange},
		{[]api.Exchange{usd(0, 0)}, api.ErrRange},
		{[]api.Exchange{usd(0, -1)}, api.ErrRange},
		{[]api.Exchange{usd(0, mostOfUnit+1)}, api.ErrRange},
		{[]api.Exchange{usd(0, math.MaxInt)}, api.ErrRange},
		{[]api.Exchange{usd(0, math.MinInt)}, api.ErrRange},
		{[]api.Exchange{{}}, api.ErrInvalid},
		{[]api.Exchange{{Currency: "EUR", PerUnit: api.Million}}, api.ErrInvalid},
		// A rate need not change.
		{[]api.Exchange{usd(0, 5), usd(1, 5), usd(2, 4)}, api.OK},
		{[]api.Exchange{usd(5, 1), usd(5, 1)}, api.ErrOrder},
		{[]api.Exchange{usd(5, 1), usd(5, 2)}, api.ErrOrder},
		{[]api.Exchange{usd(5, 2), usd(4, 3)}, api.ErrOrder},
		// By currency first: the days of another one do not matter.
		{[]api.Exchange{{Currency: "GBP", From: 9, PerUnit: 2}, usd(0, 1)}, api.OK},
		{[]api.Exchange{usd(0, 1), {Currency: "GBP", From: 9, PerUnit: 2}}, api.ErrOrder},
		{[]api.Exchange{usd(0, 1), {Currency: "USC", From: 0, PerUnit: 1}}, api.ErrOrder},
		{[]api.Exchange{usd(0, 1), {Currency: "UTA", From: 0, PerUnit: 1}}, api.OK},
		// A currency may not be resumed.
		{[]api.Exchange{{Currency: "GBP", From: 0, PerUnit: 1}, usd(0, 1), {Currency: "GBP", From: 1, PerUnit: 1}}, api.ErrOrder},
		// An element: its currency, then its range, then its place.
		{[]api.Exchange{usd(5, 1), {Currency: "EUR", From: -1, PerUnit: 0}}, api.ErrInvalid},
		{[]api.Exchange{usd(5, 1), {Currency: "ABC", From: -1, PerUnit: 1}}, api.ErrRange},
		{[]api.Exchange{usd(5, 1), usd(-1, 1)}, api.ErrRange},
		{[]api.Exchange{usd(5, 1), usd(5, 0)}, api.ErrRange},
		// And only then the next element.
		{[]api.Exchange{usd(-1, 1), {Currency: "EUR"}}, api.ErrRange},
		{[]api.Exchange{usd(5, 1), usd(5, 1), usd(6, 0)}, api.ErrOrder},
		{[]api.Exchange{usd(5, 1), usd(5, 1), {Currency: "usd"}}, api.ErrOrder},
		{[]api.Exchange{{Currency: "us", From: 0, PerUnit: 1}, usd(-1, 1), usd(-2, 1)}, api.ErrInvalid},
		{append(ordinary(), usd(0, 1)), api.ErrOrder},
		{append(ordinary(), api.Exchange{Currency: "ZZZ", From: 1, PerUnit: 0}), api.ErrRange},
	} {
		if err := currency.Validate(x.table); err != x.want {
			t.Errorf("%d: Validate(%v) = %d, want %d", i, x.table, err, x.want)
		}
	}
}

func TestValidateLimit(t *testing.T) {
	broken := ratesOf("USD", 1000)
	broken[999].From = 998
	for i, x := range []struct {
		table []api.Exchange
		want  api.Errno
	}{
		{ratesOf("USD", 1000), api.OK},
		{currencies(1000), api.OK},
		{broken, api.ErrOrder},
		{make([]api.Exchange, 1000), api.ErrInvalid},
		// ErrLimit comes first.
		{ratesOf("USD", 1001), api.ErrLimit},
		{currencies(1001), api.ErrLimit},
		{append(broken, usd(2000, 1)), api.ErrLimit},
		{make([]api.Exchange, 1001), api.ErrLimit},
		{make([]api.Exchange, 100000), api.ErrLimit},
	} {
		if err := currency.Validate(x.table); err != x.want {
			t.Errorf("%d: Validate of %d elements = %d, want %d", i, len(x.table), err, x.want)
		}
	}
}

func TestCurrencies(t *testing.T) {
	check := func(name string, want api.Errno) {
		if err := currency.Validate([]api.Exchange{{Currency: name, PerUnit: 1}}); err != want {
			t.Errorf("Validate with the currency %q = %d, want %d", name, err, want)
		}
	}
	for _, name := range []string{
		"", "U", "US", "USDD", "EURO", "EU", "usd", "Usd", "uSD", "USd", "eur", "EUr", "U D", " USD", "USD ", " US", "US\n", "USD\n", "US\x00", "USD\x00", "U-D", "U1D", "U.D",
		// Three letters that are six bytes, or three bytes that are two letters or fewer.
		"ÄÖÜ", "UÄ", "ÄU", "€", "\xff\xff\xff", "US\xc4", "ＵＳＤ",
		"EUR", strings.Repeat("A", 100000),
	} {
		check(name, api.ErrInvalid)
	}
	for i := range 26 * 26 * 26 {
		if name := nameOf(i); name != "EUR" {
			check(name, api.OK)
		}
	}
	for at := range 3 {
		for b := range 256 {
			name := []byte("USD")
			name[at] = byte(b)
			want := api.ErrInvalid
			if b >= 'A' && b <= 'Z' {
				want = api.OK
			}
			check(string(name), want)
		}
	}
}

var threeLetters = regexp.MustCompile(`\A[A-Z]{3}\z`)

// expectedValidate computes P5.1 by its words, for at most 1000 elements.
func expectedValidate(table []api.Exchange) api.Errno {
	for i, x := range table {
		switch {
		case !threeLetters.MatchString(x.Currency), x.Currency == "EUR":
			return api.ErrInvalid
		case x.From < 0, x.From > 36524, x.PerUnit < 1, x.PerUnit > 1000000000:
			return api.ErrRange
		case i == 0:
			continue
		}
		before := table[i-1]
		if before.Currency > x.Currency || before.Currency == x.Currency && before.From >= x.From {
			return api.ErrOrder
		}
	}
	return api.OK
}

// tables are all tables of up to three elements of those below, valid or not.
func tables() [][]api.Exchange {
	l := []api.Exchange{
		{Currency: "AAA", From: 0, PerUnit: 1}, {Currency: "AAA", From: 5, PerUnit: 2}, {Currency: "AAA", From: last, PerUnit: mostOfUnit},
		{Currency: "USD", From: 0, PerUnit: 3}, {Currency: "USD", From: 5, PerUnit: 900000}, {Currency: "USD", From: 6, PerUnit: 900000},
		{Currency: "EUR", From: 0, PerUnit: api.Million}, {Currency: "usd", From: 0, PerUnit: 1},
		{Currency: "USD", From: -1, PerUnit: 1}, {Currency: "USD", From: last + 1, PerUnit: 1}, {Currency: "ZZZ", From: 0, PerUnit: 0}, {Currency: "AAA", From: 0, PerUnit: mostOfUnit + 1},
	}
	all := [][]api.Exchange{nil}
	for _, a := range l {
		all = append(all, []api.Exchange{a})
		for _, b := range l {
			all = append(all, []api.Exchange{a, b})
			for _, c := range l {
				all = append(all, []api.Exchange{a, b, c})
			}
		}
	}
	return all
}

func TestValidateOfAllShortTables(t *testing.T) {
	for _, table := range tables() {
		if err, want := currency.Validate(table), expectedValidate(table); err != want {
			t.Errorf("Validate(%v) = %d, want %d", table, err, want)
		}
	}
}

// P5.2

func TestAt(t *testing.T) {
	for _, x := range []struct {
		currency string
		day      int
		want     int
		err      api.Errno
	}{
		{"USD", 0, 900000, api.OK},
		{"USD", 9, 900000, api.OK},
		{"USD", 10, 950000, api.OK},
		{"USD", 11, 950000, api.OK},
		{"USD", last, 950000, api.OK},
		{"GBP", 0, 1170000, api.OK},
		{"GBP", 1, 1180000, api.OK},
		{"GBP", last - 1, 1180000, api.OK},
		{"GBP", last, 1190000, api.OK},
		// Not before its first day, though other currencies are known.
		{"JPY", 0, 0, api.ErrUnknown},
		{"JPY", 9, 0, api.ErrUnknown},
		{"JPY", 10, 6123, api.OK},
		{"JPY", 20, 6124, api.OK},
		{"JPY", 9819, 6124, api.OK},
		{"JPY", 9820, 6122, api.OK},
		{"XAU", 49, 0, api.ErrUnknown},
		{"XAU", 50, mostOfUnit, api.OK},
		{"AAA", 99, 0, api.ErrUnknown},
		{"AAA", 100, 1, api.OK},
		{"EUR", 0, 1000000, api.OK},
		{"EUR", 9820, 1000000, api.OK},
		{"EUR", last, 1000000, api.OK},
		{"EUQ", 0, 3, api.OK},
		{"EUS", 0, 7, api.OK},
		{"ZZZ", last, 1000000, api.OK},
		{"CHF", 0, 0, api.ErrUnknown},
		{"", 0, 0, api.ErrUnknown},
		{"usd", 10, 0, api.ErrUnknown},
		{"eur", 10, 0, api.ErrUnknown},
		{"USDD", 10, 0, api.ErrUnknown},
		{"US", 10, 0, api.ErrUnknown},
		{"EUR ", 10, 0, api.ErrUnknown},
		{"\xff", 10, 0, api.ErrUnknown},
		{"USD", -1, 0, api.ErrRange},
		{"USD", last + 1, 0, api.ErrRange},
	} {
		if rate, err := currency.At(ordinary(), x.currency, x.day); rate != x.want || err != x.err {
			t.Errorf("At(%q, %d) = %d, %d, want %d, %d", x.currency, x.day, rate, err, x.want, x.err)
		}
	}
}

// expectedAt computes P5.2 by its words: the elements one by one, from the last one on.
func expectedAt(table []api.Exchange, name string, day int) (int, api.Errno) {
	if err := expectedValidate(table); err != api.OK {
		return 0, err
	}
	if day < 0 || day > 36524 {
		return 0, api.ErrRange
	}
	if name == "EUR" {
		return 1000000, api.OK
	}
	for _, x := range slices.Backward(table) {
		if x.Currency == name && x.From <= day {
			return x.PerUnit, api.OK
		}
	}
	return 0, api.ErrUnknown
}

// Errors of the table come before the day's, and that before an unknown currency, the own one included.
func TestAtOfAllShortTables(t *testing.T) {
	for _, table := range append(tables(), ordinary()) {
		for _, name := range []string{"AAA", "EUR", "GBP", "JPY", "USD", "ZZZ", "usd", "", "CHF"} {
			for _, day := range []int{math.MinInt, -1, 0, 4, 5, 6, 100, last - 1, last, last + 1, math.MaxInt} {
				want, wantErr := expectedAt(table, name, day)
				if rate, err := currency.At(table, name, day); rate != want || err != wantErr {
					t.Errorf("At(%v, %q, %d) = %d, %d, want %d, %d", table, name, day, rate, err, want, wantErr)
				}
			}
		}
	}
}

func TestAtWithManyRates(t *testing.T) {
	table := ratesOf("USD", 1000)
	for day := range 1100 {
		if rate, err := currency.At(table, "USD", day); rate != min(day, 999)+1 || err != api.OK {
			t.Errorf("with a rate for each day, At on %d = %d, %d", day, rate, err)
		}
	}
	table = currencies(1000)
	for i, x := range table {
		if rate, err := currency.At(table, x.Currency, 7); rate != i+1 || err != api.OK {
			t.Errorf("with 1000 currencies, At of %s = %d, %d, want %d", x.Currency, rate, err, i+1)
		}
		if rate, err := currency.At(table, x.Currency, 6); rate != 0 || err != api.ErrUnknown {
			t.Errorf("with 1000 currencies, At of %s on the day before = %d, %d, want ErrUnknown", x.Currency, rate, err)
		}
	}
}

func TestAtErrors(t *testing.T) {
	for _, day := range noDays {
		for _, name := range []string{"USD", "EUR", "CHF", ""} {
			for _, table := range [][]api.Exchange{nil, ordinary()} {
				if rate, err := currency.At(table, name, day); rate != 0 || err != api.ErrRange {
					t.Errorf("At(%q, %d) = %d, %d, want ErrRange", name, day, rate, err)
				}
			}
		}
	}
	// The table counts as a whole, also for the own currency and beyond what is asked for.
	for i, x := range []struct {
		table []api.Exchange
		want  api.Errno
	}{
		{ratesOf("USD", 1001), api.ErrLimit},
		{append(ordinary(), api.Exchange{Currency: "EUR", PerUnit: api.Million}), api.ErrInvalid},
		{append(ordinary(), api.Exchange{Currency: "ZZZ", From: 5}), api.ErrRange},
		{append(ordinary(), api.Exchange{Currency: "ZZZ", From: last + 1, PerUnit: 1}), api.ErrRange},
		{append(ordinary(), usd(5, 1)), api.ErrOrder},
	} {
		for _, name := range []string{"USD", "EUR", "CHF"} {
			for _, day := range []int{5, -1, last + 1} {
				if rate, err := currency.At(x.table, name, day); rate != 0 || err != x.want {
					t.Errorf("%d: At(%q, %d) = %d, %d, want %d", i, name, day, rate, err, x.want)
				}
			}
		}
	}
}

// P5.3

func TestConvert(t *testing.T) {
	for _, x := range []struct {
		amount   int
		currency string
		day      int
		want     [4]int // by mode
	}{
		{1000, "USD", 9, [4]int{900, 900, 900, 900}},
		{1000, "USD", 10, [4]int{950, 950, 950, 950}},
		{-1000, "USD", 9, [4]int{-900, -900, -900, -900}},
		{1, "USD", 0, [4]int{0, 1, 1, 1}},
		{-1, "USD", 0, [4]int{0, -1, -1, -1}},
		{5, "USD", 0, [4]int{4, 5, 5, 4}},
		{-5, "USD", 0, [4]int{-4, -5, -5, -4}},
		{15, "USD", 0, [4]int{13, 14, 14, 14}},
		{-15, "USD", 0, [4]int{-13, -14, -14, -14}},
		{12, "USD", 0, [4]int{10, 11, 11, 11}},
		{-12, "USD", 0, [4]int{-10, -11, -11, -11}},
		{14, "USD", 0, [4]int{12, 13, 13, 13}},
		{1, "GBP", 5, [4]int{1, 2, 1, 1}},
		{-1, "GBP", 5, [4]int{-1, -2, -1, -1}},
		{0, "GBP", 5, [4]int{0, 0, 0, 0}},
		{499999, "AAA", 100, [4]int{0, 1, 0, 0}},
		{500000, "AAA", 100, [4]int{0, 1, 1, 0}},
		{-500000, "AAA", 100, [4]int{0, -1, -1, 0}},
		{1500000, "AAA", 100, [4]int{1, 2, 2, 2}},
		{most, "AAA", 100, [4]int{1000000, 1000000, 1000000, 1000000}},
		{-most, "AAA", 100, [4]int{-1000000, -1000000, -1000000, -1000000}},
		{most / 1000, "XAU", 50, [4]int{most, most, most, most}},
		{-most / 1000, "XAU", 50, [4]int{-most, -most, -most, -most}},
		{most, "EUR", 0, [4]int{most, most, most, most}},
	} {
		for i, m := range modes {
			if n, err := currency.Convert(ordinary(), x.amount, x.currency, x.day, m); n != x.want[i] || err != api.OK {
				t.Errorf("Convert(%d, %q, %d, %d) = %d, %d, want %d", x.amount, x.currency, x.day, m, n, err, x.want[i])
			}
		}
	}
}

func TestCross(t *testing.T) {
	for _, x := range []struct {
		amount   int
		from, to string
		day      int
		want     [4]int // by mode
	}{
		{1000, "USD", "EUR", 9, [4]int{900, 900, 900, 900}},
		{900, "EUR", "USD", 9, [4]int{1000, 1000, 1000, 1000}},
		{1000, "EUR", "USD", 9, [4]int{1111, 1112, 1111, 1111}},
		{-1000, "EUR", "USD", 9, [4]int{-1111, -1112, -1111, -1111}},
		{1000, "GBP", "USD", 0, [4]int{1300, 1300, 1300, 1300}},
		{1000, "USD", "GBP", 0, [4]int{769, 770, 769, 769}},
		// Rounded once: through the own currency, it would be 0 or more than it is.
		{1, "EUQ", "EUS", 0, [4]int{0, 1, 0, 0}},
		{7, "EUQ", "EUS", 0, [4]int{3, 3, 3, 3}},
		{3, "EUS", "EUQ", 0, [4]int{7, 7, 7, 7}},
		{-3, "EUS", "EUQ", 0, [4]int{-7, -7, -7, -7}},
		{1, "JPY", "EUQ", 20, [4]int{2041, 2042, 2041, 2041}},
		{-1, "JPY", "EUQ", 20, [4]int{-2041, -2042, -2041, -2041}},
		{1, "AAA", "XAU", 100, [4]int{0, 1, 0, 0}},
		{-1, "AAA", "XAU", 100, [4]int{0, -1, 0, 0}},
		{500000000, "AAA", "XAU", 100, [4]int{0, 1, 1, 0}},
		{1500000000, "AAA", "XAU", 100, [4]int{1, 2, 2, 2}},
		{-2500000000, "AAA", "XAU", 100, [4]int{-2, -3, -3, -2}},
		{most, "AAA", "XAU", 100, [4]int{1000, 1000, 1000, 1000}},
		{1000, "XAU", "AAA", 100, [4]int{most, most, most, most}},
		{-1000, "XAU", "AAA", 100, [4]int{-most, -most, -most, -most}},
		{most, "ZZZ", "EUR", 100, [4]int{most, most, most, most}},
	} {
		for i, m := range modes {
			if n, err := currency.Cross(ordinary(), x.amount, x.from, x.to, x.day, m); n != x.want[i] || err != api.OK {
				t.Errorf("Cross(%d, %q, %q, %d, %d) = %d, %d, want %d", x.amount, x.from, x.to, x.day, m, n, err, x.want[i])
			}
		}
	}
}

// rounded returns the quotient of two positive numbers by the definitions of the modes: from the floor, the ceiling, and twice the distance to the floor.
func rounded(n, d *big.Int, m exact.Mode) *big.Int {
	floor, rest := new(big.Int).QuoRem(n, d, new(big.Int))
	if rest.Sign() == 0 {
		return floor
	}
	ceiling := new(big.Int).Add(floor, big.NewInt(1))
	nearer := new(big.Int).Lsh(rest, 1).Cmp(d)
	switch {
	case m == exact.Down, m != exact.Up && nearer < 0:
		return floor
	case m == exact.HalfEven && nearer == 0 && floor.Bit(0) == 0:
		return floor
	}
	return ceiling
}

// expectedCross computes P5.3 by its words.
func expectedCross(table []api.Exchange, amount int, from, to string, day int, m exact.Mode) (int, api.Errno) {
	n, err := expectedAt(table, from, day)
	if err != api.OK {
		return 0, err
	}
	d, err := expectedAt(table, to, day)
	if err != api.OK {
		return 0, err
	}
	if amount < -most || amount > most || !slices.Contains(modes, m) {
		return 0, api.ErrRange
	}
	positive := new(big.Int).Abs(big.NewInt(int64(amount)))
	q := rounded(positive.Mul(positive, big.NewInt(int64(n))), big.NewInt(int64(d)), m)
	if q.Cmp(big.NewInt(most)) > 0 {
		return 0, api.ErrOverflow
	}
	if amount < 0 {
		q.Neg(q)
	}
	return int(q.Int64()), api.OK
}

func checkCross(t *testing.T, table []api.Exchange, amount int, from, to string, day int, m exact.Mode) {
	t.Helper()
	want, wantErr := expectedCross(table, amount, from, to, day, m)
	if n, err := currency.Cross(table, amount, from, to, day, m); n != want || err != wantErr {
		t.Errorf("Cross(%d, %q, %q, %d, %d) = %d, %d, want %d, %d", amount, from, to, day, m, n, err, want, wantErr)
	}
	if to != "EUR" {
		return
	}
	if n, err := currency.Convert(table, amount, from, day, m); n != want || err != wantErr {
		t.Errorf("Convert(%d, %q, %d, %d) = %d, %d, want %d, %d", amount, from, day, m, n, err, want, wantErr)
	}
}

func TestCrossAgainstBig(t *testing.T) {
	names := []string{"AAA", "EUQ", "EUR", "EUS", "GBP", "JPY", "USD", "XAU", "ZZZ", "CHF", ""}
	amounts := []int{-most, -most + 1, -most / 1000, -123456789, -1205, -7, -1, 0, 1, 2, 3, 5, 15, 99, 100, 999, 84746, 123456789, 500000000, 847457627118, most / 1000, most/1000 + 1, most / 2, most - 1, most}
	for _, from := range names {
		for _, to := range names {
			for _, day := range []int{0, 9, 10, 100, 9820, last} {
				for _, amount := range amounts {
					for _, m := range modes {
						checkCross(t, ordinary(), amount, from, to, day, m)
					}
				}
			}
		}
	}
}

func TestCrossOverflow(t *testing.T) {
	// Rates whose quotient is a little above 1, so that rounding decides what is an amount.
	table := []api.Exchange{
		{Currency: "HLF", From: 0, PerUnit: 1500000},
		{Currency: "SML", From: 0, PerUnit: 1},
		{Currency: "XAU", From: 0, PerUnit: mostOfUnit},
	}
	for _, x := range []struct {
		amount   int
		from, to string
		fits     [4]bool // by mode
	}{
		{666666666666, "HLF", "EUR", [4]bool{true, true, true, true}},
		{666666666667, "HLF", "EUR", [4]bool{true, false, false, true}}, // an amount and 1/2, and MaxAmount is even
		{-666666666667, "HLF", "EUR", [4]bool{true, false, false, true}},
		{666666666668, "HLF", "EUR", [4]bool{}},
		{most/1000 + 1, "XAU", "EUR", [4]bool{}},
		{-most/1000 - 1, "XAU", "EUR", [4]bool{}},
		{most, "XAU", "EUR", [4]bool{}},
		{most, "XAU", "XAU", [4]bool{true, true, true, true}},
		{1001, "XAU", "SML", [4]bool{}},
		// The products and quotients here are 2^64 and more.
		{most, "XAU", "SML", [4]bool{}},
		{-most, "XAU", "SML", [4]bool{}},
		{1 << 37, "XAU", "SML", [4]bool{}},
		{most, "EUR", "SML", [4]bool{}},
		{1000001, "EUR", "SML", [4]bool{}},
		{1000000, "EUR", "SML", [4]bool{true, true, true, true}},
	} {
		for i, m := range modes {
			want := api.ErrOverflow
			if x.fits[i] {
				want = api.OK
			}
			n, err := currency.Cross(table, x.amount, x.from, x.to, 0, m)
			if err != want || err != api.OK && n != 0 {
				t.Errorf("Cross(%d, %q, %q, %d) = %d, %d, want the error %d", x.amount, x.from, x.to, m, n, err, want)
			}
			checkCross(t, table, x.amount, x.from, x.to, 0, m)
		}
	}
}

func TestConvertOutOfRange(t *testing.T) {
	for _, name := range []string{"USD", "EUR", "XAU"} {
		for _, amount := range noAmounts {
			for _, m := range append(slices.Clone(modes), noModes...) {
				if n, err := currency.Convert(ordinary(), amount, name, 100, m); n != 0 || err != api.ErrRange {
					t.Errorf("Convert(%d, %q, %d) = %d, %d, want ErrRange", amount, name, m, n, err)
				}
				if n, err := currency.Cross(ordinary(), amount, name, name, 100, m); n != 0 || err != api.ErrRange {
					t.Errorf("Cross(%d, %q, %q, %d) = %d, %d, want ErrRange", amount, name, name, m, n, err)
				}
			}
		}
		for _, m := range noModes {
			// Also where nothing is rounded, and before ErrOverflow.
			for _, amount := range []int{0, 1000, -1000, most, -most} {
				if n, err := currency.Convert(ordinary(), amount, name, 100, m); n != 0 || err != api.ErrRange {
					t.Errorf("Convert(%d, %q, %d) = %d, %d, want ErrRange", amount, name, m, n, err)
				}
				if n, err := currency.Cross(ordinary(), amount, "XAU", "AAA", 100, m); n != 0 || err != api.ErrRange {
					t.Errorf("Cross(%d, XAU, AAA, %d) = %d, %d, want ErrRange", amount, m, n, err)
				}
			}
		}
	}
}

// The errors come in the order of the table, the day, the currencies, the amount and the mode.
func TestConvertErrorOrder(t *testing.T) {
	disordered := append(ordinary(), usd(0, 1))
	for i, x := range []struct {
		table    []api.Exchange
		amount   int
		from, to string
		day      int
		m        exact.Mode
		want     api.Errno
	}{
		{ratesOf("USD", 1001), most + 1, "CHF", "EUR", -1, 4, api.ErrLimit},
		{ratesOf("USD", 1001), 1, "EUR", "EUR", 0, exact.Down, api.ErrLimit},
		{disordered, most + 1, "CHF", "EUR", -1, 4, api.ErrOrder},
		{disordered, 1, "EUR", "EUR", 0, exact.Down, api.ErrOrder},
		{[]api.Exchange{{Currency: "EUR", PerUnit: 1}}, 1, "EUR", "EUR", 0, exact.Down, api.ErrInvalid},
		{[]api.Exchange{usd(0, 0)}, 1, "USD", "EUR", 0, exact.Down, api.ErrRange},
		{ordinary(), 1, "CHF", "EUR", -1, exact.Down, api.ErrRange},
		{ordinary(), 1, "CHF", "EUR", last + 1, exact.Down, api.ErrRange},
		{ordinary(), 1, "EUR", "EUR", last + 1, exact.Down, api.ErrRange},
		{ordinary(), most + 1, "CHF", "EUR", 0, 4, api.ErrUnknown},
		{ordinary(), most, "XAU", "EUR", 49, exact.Down, api.ErrUnknown},
		{ordinary(), most, "XAU", "EUR", 50, exact.Down, api.ErrOverflow},
		{ordinary(), most + 1, "XAU", "EUR", 50, exact.Down, api.ErrRange},
		{ordinary(), most, "XAU", "EUR", 50, 4, api.ErrRange},
		{ordinary(), most + 1, "EUR", "CHF", 0, 4, api.ErrUnknown},
		{ordinary(), most + 1, "CHF", "CHF", 0, 4, api.ErrUnknown},
		{ordinary(), 0, "USD", "JPY", 9, exact.Down, api.ErrUnknown},
		{ordinary(), 0, "JPY", "USD", 9, exact.Down, api.ErrUnknown},
		{ordinary(), 0, "JPY", "JPY", 9, exact.Down, api.ErrUnknown},
		{ordinary(), 0, "JPY", "USD", 10, exact.Down, api.OK},
		{nil, 1, "USD", "EUR", 0, exact.Down, api.ErrUnknown},
		{nil, 1, "EUR", "USD", 0, exact.Down, api.ErrUnknown},
	} {
		n, err := currency.Cross(x.table, x.amount, x.from, x.to, x.day, x.m)
		if err != x.want || err != api.OK && n != 0 {
			t.Errorf("%d: Cross(%d, %q, %q, %d, %d) = %d, %d, want the error %d", i, x.amount, x.from, x.to, x.day, x.m, n, err, x.want)
		}
		if x.to != "EUR" {
			continue
		}
		n, err = currency.Convert(x.table, x.amount, x.from, x.day, x.m)
		if err != x.want || err != api.OK && n != 0 {
			t.Errorf("%d: Convert(%d, %q, %d, %d) = %d, %d, want the error %d", i, x.amount, x.from, x.day, x.m, n, err, x.want)
		}
	}
}

// P5.4

func TestSameCurrency(t *testing.T) {
	for _, amount := range []int{-most, -most + 1, -1000003, -1, 0, 1, 2, 7, 999, 1000003, most - 1, most} {
		for _, m := range modes {
			for _, name := range []string{"AAA", "EUQ", "EUR", "EUS", "GBP", "JPY", "USD", "XAU", "ZZZ"} {
				if n, err := currency.Cross(ordinary(), amount, name, name, 9820, m); n != amount || err != api.OK {
					t.Errorf("Cross(%d, %q, %q, %d) = %d, %d", amount, name, name, m, n, err)
				}
			}
			for _, table := range [][]api.Exchange{nil, ordinary()} {
				if n, err := currency.Convert(table, amount, "EUR", 9820, m); n != amount || err != api.OK {
					t.Errorf("Convert(%d, EUR, %d) = %d, %d", amount, m, n, err)
				}
			}
		}
	}
}

// R2 and R3: the table stays as it is, and a result depends on the arguments of its call only.
func TestTableIsLeftAlone(t *testing.T) {
	table := append(ordinary(), make([]api.Exchange, 3)...)[:13]
	for range 2 {
		currency.Validate(table)
		currency.At(table, "USD", 9820)
		currency.Convert(table, 1000, "USD", 9820, exact.Up)
		currency.Cross(table, 1000, "USD", "GBP", 9820, exact.Up)
		if !slices.Equal(table, ordinary()) || !slices.Equal(table[:16][13:], make([]api.Exchange, 3)) {
			t.Fatalf("the table became %v", table[:16])
		}
	}
	if rate, err := currency.At([]api.Exchange{usd(0, 5)}, "USD", 9820); rate != 5 || err != api.OK {
		t.Errorf("At with another table = %d, %d, want 5", rate, err)
	}
	table[10].PerUnit = 960000
	if rate, err := currency.At(table, "USD", 9820); rate != 960000 || err != api.OK {
		t.Errorf("At after a change of the table = %d, %d, want 960000", rate, err)
	}
}
