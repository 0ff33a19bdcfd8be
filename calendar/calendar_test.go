package calendar_test

import (
	"math"
	"slices"
	"testing"
	"time"

	"customs/api"
	"customs/calendar"
)

const last = api.MaxDay

// strangers are numbers that are not days.
var strangers = []int{math.MinInt, math.MinInt + 1, math.MinInt32, -last, -2, -1, last + 1, last + 2, 2 * last, math.MaxInt32, math.MaxInt - 1, math.MaxInt}

// dateOf returns the date of a day, which need not be in the range.
func dateOf(day int) time.Time {
	return time.Date(2000, 1, 1+day, 0, 0, 0, 0, time.UTC)
}

// expectedDates are the dates of all days.
func expectedDates() []api.Date {
	l := make([]api.Date, last+1)
	for day := range l {
		d := dateOf(day)
		l[day] = api.Date{Year: d.Year(), Month: int(d.Month()), Dom: d.Day()}
	}
	return l
}

// number returns the day of a date that is valid.
func number(t *testing.T, year, month, dom int) int {
	t.Helper()
	day, err := calendar.Number(api.Date{Year: year, Month: month, Dom: dom})
	if err != api.OK {
		t.Fatalf("Number({%d, %d, %d}): error %d", year, month, dom, err)
	}
	return day
}

// P4.1

func TestOfAndNumber(t *testing.T) {
	for _, x := range []struct {
		day  int
		date api.Date
	}{
		{0, api.Date{Year: 2000, Month: 1, Dom: 1}},
		{30, api.Date{Year: 2000, Month: 1, Dom: 31}},
		{31, api.Date{Year: 2000, Month: 2, Dom: 1}},
		{59, api.Date{Year: 2000, Month: 2, Dom: 29}},
		{60, api.Date{Year: 2000, Month: 3, Dom: 1}},
		{365, api.Date{Year: 2000, Month: 12, Dom: 31}},
		{366, api.Date{Year: 2001, Month: 1, Dom: 1}},
		{366 + 58, api.Date{Year: 2001, Month: 2, Dom: 28}},
		{366 + 59, api.Date{Year: 2001, Month: 3, Dom: 1}},
		{1461, api.Date{Year: 2004, Month: 1, Dom: 1}},
		{1461 + 59, api.Date{Year: 2004, Month: 2, Dom: 29}},
		{9820, api.Date{Year: 2026, Month: 11, Dom: 20}},
		{last - 364, api.Date{Year: 2099, Month: 1, Dom: 1}},
		{last - 1, api.Date{Year: 2099, Month: 12, Dom: 30}},
		{last, api.Date{Year: 2099, Month: 12, Dom: 31}},
	} {
		if d, err := calendar.Of(x.day); d != x.date || err != api.OK {
			t.Errorf("Of(%d) = %v, %d, want %v", x.day, d, err, x.date)
		}
		if day, err := calendar.Number(x.date); day != x.day || err != api.OK {
			t.Errorf("Number(%v) = %d, %d, want %d", x.date, day, err, x.day)
		}
	}
}

func TestEveryDate(t *testing.T) {
	for day, want := range expectedDates() {
		if d, err := calendar.Of(day); d != want || err != api.OK {
			t.Errorf("Of(%d) = %v, %d, want %v", day, d, err, want)
		}
		if n, err := calendar.Number(want); n != day || err != api.OK {
			t.Errorf("Number(%v) = %d, %d, want %d", want, n, err, day)
		}
		// Monday is 0 here, and Sunday is 0 there.
		if w := calendar.Weekday(day); w != int(dateOf(day).Weekday()+6)%7 {
			t.Errorf("Weekday(%d) = %d, want that of %v", day, w, dateOf(day).Weekday())
		}
	}
}

// Number accepts exactly the dates of the days: here all combinations around and within the range.
func TestEveryNumber(t *testing.T) {
	days := map[api.Date]int{}
	for day, d := range expectedDates() {
		days[d] = day
	}
	for year := 1998; year <= 2105; year++ {
		for month := -1; month <= 14; month++ {
			for dom := -1; dom <= 33; dom++ {
				d := api.Date{Year: year, Month: month, Dom: dom}
				want, ok := days[d]
				n, err := calendar.Number(d)
				if n != want || ok != (err == api.OK) || !ok && err != api.ErrRange {
					t.Errorf("Number(%v) = %d, %d, want %d, %v", d, n, err, want, ok)
				}
			}
		}
	}
}

func TestNoDate(t *testing.T) {
	huge := []int{math.MinInt, math.MinInt + 1, math.MinInt32, -2000, -1, 1 << 32, 1<<32 + 1, math.MaxInt32, math.MaxInt - 1, math.MaxInt}
	for _, n := range huge {
		for _, d := range []api.Date{
			{Year: n, Month: 1, Dom: 1}, {Year: 2000, Month: n, Dom: 1}, {Year: 2000, Month: 1, Dom: n},
			{Year: n, Month: n, Dom: n}, {Year: 2000, Month: n, Dom: n},
		} {
			if day, err := calendar.Number(d); day != 0 || err != api.ErrRange {
				t.Errorf("Number(%v) = %d, %d, want ErrRange", d, day, err)
			}
		}
	}
	for _, d := range []api.Date{
		{}, {Year: 1999, Month: 12, Dom: 31}, {Year: 2100, Month: 1, Dom: 1},
		{Year: 2000, Month: 2, Dom: 30}, {Year: 2001, Month: 2, Dom: 29}, {Year: 2004, Month: 2, Dom: 30},
		{Year: 2026, Month: 4, Dom: 31}, {Year: 2026, Month: 11, Dom: 31}, {Year: 2026, Month: 12, Dom: 32},
	} {
		if day, err := calendar.Number(d); day != 0 || err != api.ErrRange {
			t.Errorf("Number(%v) = %d, %d, want ErrRange", d, day, err)
		}
	}
}

func TestNoDay(t *testing.T) {
	for _, n := range strangers {
		if d, err := calendar.Of(n); d != (api.Date{}) || err != api.ErrRange {
			t.Errorf("Of(%d) = %v, %d, want ErrRange", n, d, err)
		}
		if w := calendar.Weekday(n); w != -1 {
			t.Errorf("Weekday(%d) = %d, want -1", n, w)
		}
	}
}

func TestWeekday(t *testing.T) {
	for day, want := range []int{5, 6, 0, 1, 2, 3, 4, 5, 6, 0} {
		if w := calendar.Weekday(day); w != want {
			t.Errorf("Weekday(%d) = %d, want %d", day, w, want)
		}
	}
	if w := calendar.Weekday(last); w != 3 {
		t.Errorf("Weekday(%d) = %d, want 3", last, w)
	}
}

// P4.2

func TestAddMonths(t *testing.T) {
	for _, x := range []struct {
		from api.Date
		n    int
		want api.Date
	}{
		{api.Date{Year: 2000, Month: 1, Dom: 31}, 1, api.Date{Year: 2000, Month: 2, Dom: 29}},
		{api.Date{Year: 2001, Month: 1, Dom: 31}, 1, api.Date{Year: 2001, Month: 2, Dom: 28}},
		{api.Date{Year: 2000, Month: 1, Dom: 30}, 1, api.Date{Year: 2000, Month: 2, Dom: 29}},
		{api.Date{Year: 2000, Month: 1, Dom: 29}, 1, api.Date{Year: 2000, Month: 2, Dom: 29}},
		{api.Date{Year: 2000, Month: 1, Dom: 28}, 1, api.Date{Year: 2000, Month: 2, Dom: 28}},
		{api.Date{Year: 2000, Month: 1, Dom: 31}, 2, api.Date{Year: 2000, Month: 3, Dom: 31}},
		{api.Date{Year: 2000, Month: 1, Dom: 31}, 3, api.Date{Year: 2000, Month: 4, Dom: 30}},
		{api.Date{Year: 2000, Month: 2, Dom: 29}, 1, api.Date{Year: 2000, Month: 3, Dom: 29}},
		{api.Date{Year: 2000, Month: 2, Dom: 29}, 12, api.Date{Year: 2001, Month: 2, Dom: 28}},
		{api.Date{Year: 2000, Month: 2, Dom: 29}, 48, api.Date{Year: 2004, Month: 2, Dom: 29}},
		{api.Date{Year: 2000, Month: 3, Dom: 31}, -1, api.Date{Year: 2000, Month: 2, Dom: 29}},
		{api.Date{Year: 2001, Month: 3, Dom: 29}, -1, api.Date{Year: 2001, Month: 2, Dom: 28}},
		{api.Date{Year: 2001, Month: 1, Dom: 1}, -1, api.Date{Year: 2000, Month: 12, Dom: 1}},
		{api.Date{Year: 2000, Month: 12, Dom: 31}, 1, api.Date{Year: 2001, Month: 1, Dom: 31}},
		{api.Date{Year: 2026, Month: 11, Dom: 20}, 0, api.Date{Year: 2026, Month: 11, Dom: 20}},
		{api.Date{Year: 2026, Month: 11, Dom: 20}, 36, api.Date{Year: 2029, Month: 11, Dom: 20}},
		{api.Date{Year: 2000, Month: 1, Dom: 31}, 1199, api.Date{Year: 2099, Month: 12, Dom: 31}},
		{api.Date{Year: 2099, Month: 12, Dom: 31}, -1199, api.Date{Year: 2000, Month: 1, Dom: 31}},
		{api.Date{Year: 2099, Month: 12, Dom: 31}, -1, api.Date{Year: 2099, Month: 11, Dom: 30}},
	} {
		day := number(t, x.from.Year, x.from.Month, x.from.Dom)
		want := number(t, x.want.Year, x.want.Month, x.want.Dom)
		if n, err := calendar.AddMonths(day, x.n); n != want || err != api.OK {
			t.Errorf("AddMonths(%d, %d) = %d, %d, want %d: %v after %v", day, x.n, n, err, want, x.want, x.from)
		}
	}
}

func TestAddMonthsErrors(t *testing.T) {
	for _, x := range []struct {
		day, n int
		want   api.Errno
	}{
		{0, 1199, api.OK},
		{0, 1200, api.ErrOverflow},
		{0, 1201, api.ErrRange},
		{0, -1, api.ErrOverflow},
		{0, -1200, api.ErrOverflow},
		{0, -1201, api.ErrRange},
		{last, 1, api.ErrOverflow},
		{last, 1200, api.ErrOverflow},
		{last, -1199, api.OK},
		{last, -1200, api.ErrOverflow},
		{last, -1201, api.ErrRange},
		{last - 31, 1, api.OK},          // November 30
		{last - 30, 1, api.ErrOverflow}, // December 1
		{31, -1, api.OK},
		{30, -1, api.ErrOverflow},
		{5, math.MaxInt, api.ErrRange},
		{5, math.MinInt, api.ErrRange},
	} {
		day, err := calendar.AddMonths(x.day, x.n)
		if err != x.want || err != api.OK && day != 0 {
			t.Errorf("AddMonths(%d, %d) = %d, %d, want the error %d", x.day, x.n, day, err, x.want)
		}
	}
	for _, day := range strangers {
		for _, n := range []int{0, 1, -1, 1200, -1200, 1201, math.MinInt, math.MaxInt} {
			if d, err := calendar.AddMonths(day, n); d != 0 || err != api.ErrRange {
				t.Errorf("AddMonths(%d, %d) = %d, %d, want ErrRange", day, n, d, err)
			}
		}
	}
}

// expectedAddMonths computes P4.2 by its words: the same day of the month or, if the month has none, its last one.
func expectedAddMonths(dates []api.Date, days map[api.Date]int, day, n int) (int, api.Errno) {
	d := dates[day]
	m := d.Year*12 + d.Month - 1 + n
	for dom := d.Dom; dom > 0; dom-- {
		if to, ok := days[api.Date{Year: m / 12, Month: m%12 + 1, Dom: dom}]; ok {
			return to, api.OK
		}
	}
	return 0, api.ErrOverflow
}

func TestAddMonthsOfEveryDay(t *testing.T) {
	dates := expectedDates()
	days := map[api.Date]int{}
	for day, d := range dates {
		days[d] = day
	}
	check := func(day, n int) {
		want, wantErr := expectedAddMonths(dates, days, day, n)
		if to, err := calendar.AddMonths(day, n); to != want || err != wantErr {
			t.Errorf("AddMonths(%d, %d) = %d, %d, want %d, %d", day, n, to, err, want, wantErr)
		}
	}
	for day := range dates {
		for _, n := range []int{-25, -1, 0, 1, 13} {
			check(day, n)
		}
	}
	for _, day := range []int{0, 28, 29, 30, 31, 59, 60, 366 + 58, 1461 + 59, 9820, last - 31, last} {
		for n := -1200; n <= 1200; n++ {
			check(day, n)
		}
	}
}

// P4.3

// daysFrom are n days from first on, step apart.
func daysFrom(first, n, step int) []int {
	l := make([]int, n)
	for i := range l {
		l[i] = first + i*step
	}
	return l
}

func TestValid(t *testing.T) {
	for _, x := range []struct {
		holidays []int
		want     api.Errno
	}{
		{nil, api.OK},
		{[]int{}, api.OK},
		{[]int{0}, api.OK},
		{[]int{last}, api.OK},
		{[]int{0, 1, 2, last}, api.OK},
		{[]int{0, 0}, api.ErrOrder},
		{[]int{5, 4}, api.ErrOrder},
		{[]int{1, 2, 3, 3, 4}, api.ErrOrder},
		{[]int{last, 0}, api.ErrOrder},
		// Element by element: the range of one, then its place, then the next one.
		{[]int{-1}, api.ErrRange},
		{[]int{last + 1}, api.ErrRange},
		{[]int{5, -1}, api.ErrRange},
		{[]int{5, last + 1}, api.ErrRange},
		{[]int{5, 5, -1}, api.ErrOrder},
		{[]int{5, 4, last + 1}, api.ErrOrder},
		{[]int{-1, 5, 4}, api.ErrRange},
		{[]int{-2, -1}, api.ErrRange},
		{[]int{math.MinInt}, api.ErrRange},
		{[]int{math.MaxInt}, api.ErrRange},
		{[]int{1, 2, 3, 4, math.MaxInt}, api.ErrRange},
		// ErrLimit comes first.
		{daysFrom(0, 2000, 1), api.OK},
		{daysFrom(last-1999, 2000, 1), api.OK},
		{daysFrom(last-1998, 2000, 1), api.ErrRange},
		{make([]int, 2000), api.ErrOrder},
		{daysFrom(0, 2001, 1), api.ErrLimit},
		{make([]int, 2001), api.ErrLimit},
		{daysFrom(-1, 2001, 1), api.ErrLimit},
		{make([]int, 5000), api.ErrLimit},
	} {
		if err := calendar.Valid(x.holidays); err != x.want {
			t.Errorf("Valid(%d holidays: %v) = %d, want %d", len(x.holidays), x.holidays[:min(5, len(x.holidays))], err, x.want)
		}
	}
}

func TestWorking(t *testing.T) {
	for _, x := range []struct {
		holidays []int
		day      int
		want     bool
	}{
		{nil, 0, false}, // Saturday
		{nil, 1, false},
		{nil, 2, true},
		{nil, 3, true},
		{nil, 6, true}, // Friday
		{nil, 7, false},
		{nil, last, true},
		{[]int{2}, 2, false},
		{[]int{2}, 3, true},
		{[]int{2}, 0, false},
		{[]int{0}, 0, false},
		{[]int{0, 1, 3}, 2, true},
		{[]int{0, 1, 3}, 3, false},
		{[]int{last}, last, false},
		{[]int{0, last}, last - 1, true},
	} {
		if w := calendar.Working(x.holidays, x.day); w != x.want {
			t.Errorf("Working(%v, %d) = %v", x.holidays, x.day, w)
		}
	}
	for _, n := range strangers {
		for _, holidays := range [][]int{nil, {0}, {2, 3}, {last}} {
			if calendar.Working(holidays, n) {
				t.Errorf("Working(%v, %d) is true", holidays, n)
			}
		}
	}
}

// holidayLists are valid lists of different kinds: none, few, on weekends, long ones without a gap, and at both ends.
func holidayLists() [][]int {
	return [][]int{
		nil, {2}, {0, 1, 7, 8}, {2, 3, 4, 5, 6}, {359, 360, 365, 366, 1461}, {last}, {last - 2, last - 1, last},
		daysFrom(0, 2000, 1), daysFrom(last-1999, 2000, 1), daysFrom(3, 2000, 18), daysFrom(2, 2000, 7), daysFrom(9820, 30, 1), daysFrom(100, 1200, 3),
	}
}

// expectedWorking lists all working days, by the words of P4.3.
func expectedWorking(holidays []int) []int {
	var l []int
	for day := 0; day <= last; day++ {
		w := dateOf(day).Weekday()
		if w != time.Saturday && w != time.Sunday && !slices.Contains(holidays, day) {
			l = append(l, day)
		}
	}
	return l
}

func TestWorkingOfEveryDay(t *testing.T) {
	for _, holidays := range holidayLists() {
		want := expectedWorking(holidays)
		var l []int
		for day := -10; day <= last+10; day++ {
			if calendar.Working(holidays, day) {
				l = append(l, day)
			}
		}
		if !slices.Equal(l, want) {
			t.Errorf("with the holidays %v.. there are %d working days, want %d", holidays[:min(5, len(holidays))], len(l), len(want))
		}
	}
}

// P4.4

func TestNextWorking(t *testing.T) {
	for _, x := range []struct {
		holidays  []int
		day, want int
	}{
		{nil, 0, 2},
		{nil, 1, 2},
		{nil, 2, 2},
		{nil, 6, 6},
		{nil, 7, 9},
		{[]int{2}, 0, 3},
		{[]int{2, 3, 4, 5, 6}, 1, 9},
		{[]int{3}, 2, 2},
		{[]int{3}, 3, 4},
		{[]int{6}, 6, 9},
		{daysFrom(0, 2000, 1), 0, 2000},
		{nil, last, last},
		{[]int{last - 1}, last - 1, last},
	} {
		if day, err := calendar.NextWorking(x.holidays, x.day); day != x.want || err != api.OK {
			t.Errorf("NextWorking(%v.., %d) = %d, %d, want %d", x.holidays[:min(5, len(x.holidays))], x.day, day, err, x.want)
		}
	}
}

func TestAddWorking(t *testing.T) {
	for _, x := range []struct {
		holidays     []int
		day, n, want int
	}{
		// Day itself, even if it is no working day.
		{nil, 0, 0, 0},
		{[]int{2}, 2, 0, 2},
		{[]int{last}, last, 0, last},
		{nil, 0, 1, 2},
		{nil, 1, 1, 2},
		{nil, 2, 1, 3},
		{nil, 6, 1, 9},
		{nil, 0, 5, 6},
		{nil, 0, 6, 9},
		{nil, 2, 5, 9},
		{nil, 2, 1000, 1402},
		{[]int{3}, 2, 1, 4},
		{[]int{2}, 2, 1, 3},
		{[]int{3, 4, 5, 6}, 2, 1, 9},
		{[]int{3, 4, 5, 6}, 2, 2, 10},
		{nil, last - 1, 1, last},
		{nil, last - 7, 5, last},
	} {
		if day, err := calendar.AddWorking(x.holidays, x.day, x.n); day != x.want || err != api.OK {
			t.Errorf("AddWorking(%v, %d, %d) = %d, %d, want %d", x.holidays, x.day, x.n, day, err, x.want)
		}
	}
}

func TestWorkingDaysOfManyDays(t *testing.T) {
	for _, holidays := range holidayLists() {
		working := expectedWorking(holidays)
		for day := 0; day <= last; day += 41 + day%13 {
			checkWorkingDays(t, holidays, working, day)
		}
		for day := last - 20; day <= last; day++ {
			checkWorkingDays(t, holidays, working, day)
		}
		for _, day := range holidays[:min(10, len(holidays))] {
			checkWorkingDays(t, holidays, working, day)
		}
	}
}

// checkWorkingDays holds NextWorking and AddWorking against the list of all working days.
func checkWorkingDays(t *testing.T, holidays, working []int, day int) {
	t.Helper()
	at := func(i int) (int, api.Errno) {
		if i >= len(working) {
			return 0, api.ErrOverflow
		}
		return working[i], api.OK
	}
	first, today := slices.BinarySearch(working, day)
	want, wantErr := at(first)
	if n, err := calendar.NextWorking(holidays, day); n != want || err != wantErr {
		t.Errorf("NextWorking(.., %d) = %d, %d, want %d, %d", day, n, err, want, wantErr)
	}
	if today {
		first++
	}
	for _, n := range []int{1, 2, 5, 6, 17, 250, 1000} {
		want, wantErr := at(first + n - 1)
		if d, err := calendar.AddWorking(holidays, day, n); d != want || err != wantErr {
			t.Errorf("AddWorking(.., %d, %d) = %d, %d, want %d, %d", day, n, d, err, want, wantErr)
		}
	}
	if d, err := calendar.AddWorking(holidays, day, 0); d != day || err != api.OK {
		t.Errorf("AddWorking(.., %d, 0) = %d, %d", day, d, err)
	}
}

func TestNextWorkingErrors(t *testing.T) {
	for _, x := range []struct {
		holidays []int
		day      int
		want     api.Errno
	}{
		{[]int{last}, last, api.ErrOverflow},
		{[]int{last - 2, last - 1, last}, last - 2, api.ErrOverflow},
		{[]int{last - 2, last - 1, last}, last - 3, api.OK},
		{daysFrom(last-1999, 2000, 1), last - 1999, api.ErrOverflow},
		{nil, -1, api.ErrRange},
		{nil, last + 1, api.ErrRange},
		{[]int{last}, last + 1, api.ErrRange},
		// The error of Valid comes first.
		{[]int{-1}, -1, api.ErrRange},
		{[]int{5, 5}, 9, api.ErrOrder},
		{[]int{5, 5}, -1, api.ErrOrder},
		{make([]int, 2001), last + 1, api.ErrLimit},
		{[]int{last, last}, last, api.ErrOrder},
	} {
		day, err := calendar.NextWorking(x.holidays, x.day)
		if err != x.want || err != api.OK && day != 0 {
			t.Errorf("NextWorking(%d holidays, %d) = %d, %d, want the error %d", len(x.holidays), x.day, day, err, x.want)
		}
	}
	for _, n := range strangers {
		if day, err := calendar.NextWorking([]int{2}, n); day != 0 || err != api.ErrRange {
			t.Errorf("NextWorking({2}, %d) = %d, %d, want ErrRange", n, day, err)
		}
	}
}

func TestAddWorkingErrors(t *testing.T) {
	for _, x := range []struct {
		holidays []int
		day, n   int
		want     api.Errno
	}{
		{nil, last, 0, api.OK},
		{nil, last, 1, api.ErrOverflow},
		{nil, last - 1, 2, api.ErrOverflow},
		{[]int{last}, last - 1, 1, api.ErrOverflow},
		{nil, last - 1000, 1000, api.ErrOverflow},
		{nil, 0, 1000, api.OK},
		{nil, 0, 1001, api.ErrRange},
		{nil, 0, -1, api.ErrRange},
		{nil, last, 1001, api.ErrRange},
		{nil, last, math.MaxInt, api.ErrRange},
		{nil, 0, math.MinInt, api.ErrRange},
		{nil, -1, 0, api.ErrRange},
		{nil, last + 1, 0, api.ErrRange},
		{nil, last + 1, 1, api.ErrRange},
		// The error of Valid comes first.
		{[]int{5, 5}, 0, -1, api.ErrOrder},
		{[]int{5, 5}, -1, 0, api.ErrOrder},
		{[]int{5, 5}, 0, 0, api.ErrOrder},
		{make([]int, 2001), -1, -1, api.ErrLimit},
		{[]int{-1}, 0, 0, api.ErrRange},
		{[]int{last, 0}, last, 1, api.ErrOrder},
	} {
		day, err := calendar.AddWorking(x.holidays, x.day, x.n)
		if err != x.want || err != api.OK && day != 0 {
			t.Errorf("AddWorking(%d holidays, %d, %d) = %d, %d, want the error %d", len(x.holidays), x.day, x.n, day, err, x.want)
		}
	}
	for _, n := range strangers {
		for _, k := range []int{0, 1, 1000} {
			if day, err := calendar.AddWorking(nil, n, k); day != 0 || err != api.ErrRange {
				t.Errorf("AddWorking(nil, %d, %d) = %d, %d, want ErrRange", n, k, day, err)
			}
		}
	}
}

// P4.5

func TestDeadline(t *testing.T) {
	for _, x := range []struct {
		holidays []int
		day      int
		term     api.Term
		want     int
	}{
		{nil, 2, api.Term{}, 2},
		{nil, 0, api.Term{}, 2},
		{[]int{2}, 0, api.Term{}, 3},
		{nil, 0, api.Term{Days: 6}, 6},
		{nil, 0, api.Term{Days: 7}, 9},
		{nil, 0, api.Term{Days: 8}, 9},
		{nil, 0, api.Term{Days: 1000}, 1000},
		{nil, 0, api.Term{Working: 1}, 2},
		{nil, 2, api.Term{Working: 5}, 9},
		{nil, 30, api.Term{Months: 1}, 59}, // February 29, a Tuesday
		{[]int{59}, 30, api.Term{Months: 1}, 60},
		// Months before days: February 29 and a day, not February 1 and a month.
		{nil, 30, api.Term{Months: 1, Days: 1}, 60},
		// Days before working days: from Friday on, Saturday and then the first working day after it.
		{nil, 6, api.Term{Days: 1, Working: 1}, 9},
		{nil, 5, api.Term{Days: 2, Working: 2}, 10},
		// The working days are counted from a day that may be a holiday; only the end is moved.
		{nil, 0, api.Term{Days: 7, Working: 0}, 9},
		{nil, 0, api.Term{Days: 7, Working: 1}, 9},
		{[]int{9}, 0, api.Term{Days: 7, Working: 1}, 10},
		{nil, 2, api.Term{Months: 1, Days: 2, Working: 3}, 39}, // January 3, February 3 and 5 (Saturday), February 9
		{nil, last, api.Term{}, last},
		{nil, last - 1, api.Term{Days: 1}, last},
		{nil, last - 1, api.Term{Working: 1}, last},
		{nil, last - 31, api.Term{Months: 1, Days: 1}, last},
		{nil, 0, api.Term{Months: 1000, Days: 1000, Working: 1000}, 32836}, // May 1, 2083, Friday 31436 and 200 weeks
	} {
		if day, err := calendar.Deadline(x.holidays, x.day, x.term); day != x.want || err != api.OK {
			t.Errorf("Deadline(%v, %d, %v) = %d, %d, want %d", x.holidays, x.day, x.term, day, err, x.want)
		}
	}
}

// expectedDeadline computes P4.5 by its words, out of the list of all working days and the package's AddMonths.
func expectedDeadline(working []int, day int, term api.Term) (int, api.Errno) {
	day, err := calendar.AddMonths(day, term.Months)
	if err != api.OK {
		return 0, err
	}
	day += term.Days
	if day > last {
		return 0, api.ErrOverflow
	}
	first, _ := slices.BinarySearch(working, day)
	if term.Working > 0 {
		first, _ = slices.BinarySearch(working, day+1)
		first += term.Working - 1
	}
	if first >= len(working) {
		return 0, api.ErrOverflow
	}
	return working[first], api.OK
}

func TestDeadlineOfManyTerms(t *testing.T) {
	for _, holidays := range holidayLists() {
		working := expectedWorking(holidays)
		for _, day := range []int{0, 1, 2, 6, 7, 30, 58, 1461, 9820, 20000, last - 1500, last - 40, last - 31, last - 7, last - 1, last} {
			for _, term := range []api.Term{
				{}, {Months: 1}, {Days: 1}, {Working: 1}, {Months: 1, Days: 1}, {Days: 1, Working: 1}, {Months: 1, Working: 1}, {Months: 6}, {Months: 24},
				{Days: 90}, {Days: 8}, {Months: 12, Days: 7, Working: 3}, {Working: 1000}, {Days: 1000}, {Months: 1000}, {Months: 3, Days: 40, Working: 200},
			} {
				want, wantErr := expectedDeadline(working, day, term)
				if d, err := calendar.Deadline(holidays, day, term); d != want || err != wantErr {
					t.Errorf("Deadline(%v.., %d, %v) = %d, %d, want %d, %d", holidays[:min(5, len(holidays))], day, term, d, err, want, wantErr)
				}
			}
		}
	}
}

func TestDeadlineErrors(t *testing.T) {
	for _, x := range []struct {
		holidays []int
		day      int
		term     api.Term
		want     api.Errno
	}{
		{nil, 0, api.Term{Months: 1000, Days: 1000, Working: 1000}, api.OK},
		{nil, 0, api.Term{Months: 1001}, api.ErrRange},
		{nil, 0, api.Term{Days: 1001}, api.ErrRange},
		{nil, 0, api.Term{Working: 1001}, api.ErrRange},
		{nil, 100, api.Term{Months: -1}, api.ErrRange},
		{nil, 100, api.Term{Days: -1}, api.ErrRange},
		{nil, 100, api.Term{Working: -1}, api.ErrRange},
		{nil, 100, api.Term{Months: math.MaxInt}, api.ErrRange},
		{nil, 100, api.Term{Days: math.MaxInt}, api.ErrRange},
		{nil, 100, api.Term{Working: math.MinInt}, api.ErrRange},
		{nil, -1, api.Term{}, api.ErrRange},
		{nil, -1, api.Term{Days: 1}, api.ErrRange},
		{nil, last + 1, api.Term{}, api.ErrRange},
		// ErrRange comes before ErrOverflow, whichever part is which.
		{nil, last, api.Term{Months: 1, Days: 1001}, api.ErrRange},
		{nil, last, api.Term{Days: 1, Working: -1}, api.ErrRange},
		{nil, last, api.Term{Months: 1}, api.ErrOverflow},
		{nil, last, api.Term{Days: 1}, api.ErrOverflow},
		{nil, last, api.Term{Working: 1}, api.ErrOverflow},
		{nil, last - 30, api.Term{Months: 1}, api.ErrOverflow},
		{nil, last - 31, api.Term{Months: 1, Days: 2}, api.ErrOverflow},
		{nil, last - 1, api.Term{Days: 1, Working: 1}, api.ErrOverflow},
		// The last day is a holiday.
		{[]int{last}, last, api.Term{}, api.ErrOverflow},
		{[]int{last}, last - 1, api.Term{Days: 1}, api.ErrOverflow},
		{[]int{last}, last - 1, api.Term{Working: 1}, api.ErrOverflow},
		{[]int{last}, last - 1, api.Term{}, api.OK},
		// The error of Valid comes first.
		{[]int{5, 5}, -1, api.Term{}, api.ErrOrder},
		{[]int{5, 5}, 0, api.Term{Days: 1001}, api.ErrOrder},
		{[]int{5, 5}, last, api.Term{Days: 1}, api.ErrOrder},
		{[]int{5, 5}, 0, api.Term{}, api.ErrOrder},
		{[]int{-1}, last, api.Term{Days: 1}, api.ErrRange},
		{make([]int, 2001), -1, api.Term{Days: -1}, api.ErrLimit},
	} {
		day, err := calendar.Deadline(x.holidays, x.day, x.term)
		if err != x.want || err != api.OK && day != 0 {
			t.Errorf("Deadline(%d holidays, %d, %v) = %d, %d, want the error %d", len(x.holidays), x.day, x.term, day, err, x.want)
		}
	}
	for _, n := range strangers {
		if day, err := calendar.Deadline(nil, n, api.Term{Months: 1}); day != 0 || err != api.ErrRange {
			t.Errorf("Deadline(nil, %d, {1, 0, 0}) = %d, %d, want ErrRange", n, day, err)
		}
	}
}

// P4.6

func TestNumberOfOf(t *testing.T) {
	for day := 0; day <= last; day++ {
		d, _ := calendar.Of(day)
		if n, err := calendar.Number(d); n != day || err != api.OK {
			t.Errorf("Number(Of(%d)) = %d, %d", day, n, err)
		}
	}
}

func TestAddMonthsIsMonotone(t *testing.T) {
	for _, n := range []int{-1199, -600, -12, -11, -1, 0, 1, 2, 11, 12, 36, 600, 1199} {
		before := 0
		for day := 0; day <= last; day++ {
			to, err := calendar.AddMonths(day, n)
			if err == api.OK && to < before {
				t.Errorf("AddMonths(%d, %d) = %d, below that of the day before", day, n, to)
			}
			before = max(before, to)
		}
	}
}

func TestDeadlineIsWorkingDay(t *testing.T) {
	for _, holidays := range holidayLists() {
		for day := 0; day <= last; day += 17 + day%5 {
			for _, term := range []api.Term{{}, {Days: 3}, {Months: 2}, {Working: 4}, {Months: 1, Days: 1, Working: 1}} {
				d, err := calendar.Deadline(holidays, day, term)
				if err == api.OK && (d < day || !calendar.Working(holidays, d)) {
					t.Errorf("Deadline(%v.., %d, %v) = %d", holidays[:min(5, len(holidays))], day, term, d)
				}
			}
		}
	}
}

// R1: lists that are not valid do no harm.
func TestWorkingOfInvalidHolidays(t *testing.T) {
	for _, holidays := range [][]int{{5, 5}, {9, 2, 7}, {-1}, {math.MaxInt, math.MinInt}, make([]int, 2001)} {
		for _, day := range append([]int{0, 1, 2, 5, 9, last}, strangers...) {
			calendar.Working(holidays, day)
		}
	}
}

// R2

func TestHolidaysStay(t *testing.T) {
	holidays := []int{2, 3, 9, 400}
	calendar.Valid(holidays)
	calendar.Working(holidays, 3)
	calendar.NextWorking(holidays, 2)
	calendar.AddWorking(holidays, 2, 10)
	calendar.Deadline(holidays, 2, api.Term{Months: 1, Days: 1, Working: 1})
	if !slices.Equal(holidays, []int{2, 3, 9, 400}) {
		t.Errorf("the holidays are %v afterwards", holidays)
	}
}
