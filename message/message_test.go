package message_test

import (
	"fmt"
	"math"
	"math/rand"
	"reflect"
	"regexp"
	"slices"
	"strconv"
	"strings"
	"testing"

	"customs/api"
	"customs/message"
	"customs/segment"
)

// plain is a message whose fields are all different; it has all segments.
func plain() api.Message {
	return api.Message{Kind: 1, From: 2, To: 3, Number: 4, Day: 5, Lot: 6, Other: 7, Code: "08", Country: "NO", Quantity: 9, Amount: -10, List: []int{11, -12, 0}, Text: "it's"}
}

const plainText = "MSG+1+2+3+4+5'LOT+6+7'GDS+08+NO+9+-10'LST+11:-12:0'TXT+it?'s'END+6+4'"

// with returns a short message that was changed.
func with(change func(m *api.Message)) api.Message {
	m := api.Message{Kind: 1, From: 2, To: 3, Number: 4, Day: 5}
	change(&m)
	return m
}

// same tells whether two messages are equal; lists that are nil and empty are.
func same(a, b api.Message) bool {
	if !slices.Equal(a.List, b.List) {
		return false
	}
	a.List, b.List = nil, nil
	return reflect.DeepEqual(a, b)
}

func isZero(m api.Message) bool { return same(m, api.Message{}) }

// sameSegment tells whether two segments are equal; elements that are nil and empty are.
func sameSegment(a, b api.Segment) bool {
	return a.Tag == b.Tag && slices.EqualFunc(a.Elements, b.Elements, slices.Equal[[]string])
}

// field is a number of a message and its range.
type field struct {
	name      string
	set       func(m *api.Message, n int)
	low, high int
}

func fields() []field {
	return []field{
		{"Kind", func(m *api.Message, n int) { m.Kind = n }, 1, 60},
		{"From", func(m *api.Message, n int) { m.From = n }, 0, 999},
		{"To", func(m *api.Message, n int) { m.To = n }, 0, 999},
		{"Number", func(m *api.Message, n int) { m.Number = n }, 0, 1000000000},
		{"Day", func(m *api.Message, n int) { m.Day = n }, 0, 36524},
		{"Lot", func(m *api.Message, n int) { m.Lot = n }, 0, 1000000000},
		{"Other", func(m *api.Message, n int) { m.Other = n }, 0, 1000000000},
		{"Quantity", func(m *api.Message, n int) { m.Quantity = n }, 0, 1000000000},
		{"Amount", func(m *api.Message, n int) { m.Amount = n }, -1000000000000, 1000000000000},
		{"List", func(m *api.Message, n int) { m.List = []int{n} }, -1000000000000, 1000000000000},
		{"List", func(m *api.Message, n int) { m.List = []int{1, 2, n, 3} }, -1000000000000, 1000000000000},
	}
}

// numbers returns n equal numbers.
func numbers(n, number int) []int { return slices.Repeat([]int{number}, n) }

// P7.1

func TestRanges(t *testing.T) {
	for _, f := range fields() {
		check := func(n int, want api.Errno) {
			for _, m := range []api.Message{plain(), with(func(*api.Message) {})} {
				f.set(&m, n)
				if err := message.Validate(m); err != want {
					t.Errorf("Validate with %s %d = %d, want %d", f.name, n, err, want)
				}
			}
		}
		for _, n := range []int{f.low, f.low + 1, (f.low + f.high) / 2, f.high - 1, f.high} {
			check(n, api.OK)
		}
		for _, n := range []int{math.MinInt, math.MinInt + 1, -f.high - 1, f.low - 1, f.high + 1, f.high * 2, math.MaxInt, math.MaxInt32 * 1000, math.MinInt32 * 1000} {
			check(n, api.ErrRange)
		}
	}
	if err := message.Validate(api.Message{}); err != api.ErrRange {
		t.Errorf("Validate of the zero message = %d, want ErrRange", err)
	}
}

func TestCode(t *testing.T) {
	for _, x := range []struct {
		code string
		want api.Errno
	}{
		{"", api.OK}, {"01", api.OK}, {"99", api.OK}, {"00", api.OK}, {"0123", api.OK}, {"987654", api.OK}, {"01234567", api.OK}, {"00000000", api.OK},
		{"1", api.ErrInvalid}, {"123", api.ErrInvalid}, {"12345", api.ErrInvalid}, {"1234567", api.ErrInvalid}, {"123456789", api.ErrInvalid}, {"1234567890", api.ErrInvalid}, {strings.Repeat("12", 1000), api.ErrInvalid},
		{"-1", api.ErrInvalid}, {"+1", api.ErrInvalid}, {"1 ", api.ErrInvalid}, {" 1", api.ErrInvalid}, {"  ", api.ErrInvalid}, {"1.", api.ErrInvalid}, {"0x10", api.ErrInvalid}, {"AB", api.ErrInvalid}, {"1a", api.ErrInvalid}, {"123456 8", api.ErrInvalid},
		{"²", api.ErrInvalid}, {"\u0661\u0662", api.ErrInvalid}, {"1\x00", api.ErrInvalid}, {"\xff\xff", api.ErrInvalid},
	} {
		m := plain()
		m.Code = x.code
		if err := message.Validate(m); err != x.want {
			t.Errorf("Validate with Code %q = %d, want %d", x.code, err, x.want)
		}
	}
	for _, code := range []string{"12", "3456", "789012", "34567890"} {
		checkBytes(t, code, "0123456789", func(m *api.Message, s string) { m.Code = s })
	}
}

func TestCountry(t *testing.T) {
	for _, x := range []struct {
		country string
		want    api.Errno
	}{
		{"", api.OK}, {"NO", api.OK}, {"AA", api.OK}, {"ZZ", api.OK}, {"AZ", api.OK},
		{"N", api.ErrInvalid}, {"NOR", api.ErrInvalid}, {"NONO", api.ErrInvalid}, {"no", api.ErrInvalid}, {"No", api.ErrInvalid}, {"nO", api.ErrInvalid}, {"N1", api.ErrInvalid}, {"12", api.ErrInvalid},
		{"N ", api.ErrInvalid}, {" N", api.ErrInvalid}, {"  ", api.ErrInvalid}, {"Ö", api.ErrInvalid}, {"NÖ", api.ErrInvalid}, {"N\x00", api.ErrInvalid}, {strings.Repeat("N", 1000), api.ErrInvalid},
	} {
		m := plain()
		m.Country = x.country
		if err := message.Validate(m); err != x.want {
			t.Errorf("Validate with Country %q = %d, want %d", x.country, err, x.want)
		}
	}
	checkBytes(t, "NO", "ABCDEFGHIJKLMNOPQRSTUVWXYZ", func(m *api.Message, s string) { m.Country = s })
}

// checkBytes puts each byte at each place of text and expects an error unless the byte is allowed.
func checkBytes(t *testing.T, text, allowed string, set func(m *api.Message, s string)) {
	t.Helper()
	for i := range len(text) {
		for c := range 256 {
			b := []byte(text)
			b[i] = byte(c)
			want := api.ErrInvalid
			if strings.IndexByte(allowed, byte(c)) >= 0 {
				want = api.OK
			}
			m := plain()
			set(&m, string(b))
			if err := message.Validate(m); err != want {
				t.Errorf("Validate with %q = %d, want %d", b, err, want)
			}
		}
	}
}

// lengths has lists and texts at their limits and above them.
func lengths() []struct {
	m    api.Message
	want api.Errno
} {
	list := func(n int) api.Message { return with(func(m *api.Message) { m.List = numbers(n, 1) }) }
	text := func(s string) api.Message { return with(func(m *api.Message) { m.Text = s }) }
	return []struct {
		m    api.Message
		want api.Errno
	}{
		{list(0), api.OK}, {list(1), api.OK}, {list(63), api.OK}, {list(64), api.OK}, {list(65), api.ErrLimit}, {list(66), api.ErrLimit}, {list(100), api.ErrLimit}, {list(101), api.ErrLimit}, {list(100000), api.ErrLimit},
		{text(""), api.OK}, {text("x"), api.OK}, {text(strings.Repeat("x", 199)), api.OK}, {text(strings.Repeat("x", 200)), api.OK}, {text(strings.Repeat("x", 201)), api.ErrLimit}, {text(strings.Repeat("x", 1001)), api.ErrLimit}, {text(strings.Repeat("x", 100000)), api.ErrLimit},
		// Bytes count, neither runes nor the bytes of the encoding.
		{text(strings.Repeat("é", 100)), api.OK}, {text(strings.Repeat("é", 100) + "x"), api.ErrLimit}, {text(strings.Repeat("?", 200)), api.OK}, {text(strings.Repeat("'", 201)), api.ErrLimit}, {text(strings.Repeat("\xff", 200)), api.OK}, {text(strings.Repeat("\x00", 201)), api.ErrLimit},
	}
}

func TestLengths(t *testing.T) {
	for i, x := range lengths() {
		if err := message.Validate(x.m); err != x.want {
			t.Errorf("%d: Validate = %d, want %d", i, err, x.want)
		}
	}
}

// disordered has messages with several errors, of which the first one counts.
func disordered() []struct {
	m    api.Message
	want api.Errno
} {
	long := strings.Repeat("x", 201)
	const most = 1000000000000
	return []struct {
		m    api.Message
		want api.Errno
	}{
		{api.Message{Code: "1", Country: "1", List: numbers(65, most+1), Text: long}, api.ErrRange},
		{api.Message{Kind: 61, Code: "1"}, api.ErrRange},
		{api.Message{Kind: 1, From: -1, Country: "1"}, api.ErrRange},
		{api.Message{Kind: 1, To: 1000, Code: "1"}, api.ErrRange},
		{api.Message{Kind: 1, Number: -1, Text: long}, api.ErrRange},
		{api.Message{Kind: 1, Day: 36525, List: numbers(65, 1)}, api.ErrRange},
		{api.Message{Kind: 1, Lot: -1, Code: "1"}, api.ErrRange},
		{api.Message{Kind: 1, Other: -1, Code: "1"}, api.ErrRange},
		{api.Message{Kind: 1, Quantity: -1, Code: "1"}, api.ErrRange},
		{api.Message{Kind: 1, Amount: most + 1, Country: "1"}, api.ErrRange},
		{api.Message{Kind: 1, Amount: -most - 1, Text: long}, api.ErrRange},
		{api.Message{Kind: 1, Code: "1", List: numbers(65, 1)}, api.ErrInvalid},
		{api.Message{Kind: 1, Code: "1", Text: long}, api.ErrInvalid},
		{api.Message{Kind: 1, Country: "1", Text: long, List: numbers(65, most+1)}, api.ErrInvalid},
		{api.Message{Kind: 1, Code: "1", List: numbers(1, most+1)}, api.ErrInvalid},
		{api.Message{Kind: 1, Country: "1", List: numbers(1, -most-1)}, api.ErrInvalid},
		{api.Message{Kind: 1, List: numbers(65, most+1)}, api.ErrLimit},
		{api.Message{Kind: 1, List: append(numbers(64, most+1), 1)}, api.ErrLimit},
		{api.Message{Kind: 1, Text: long, List: numbers(1, most+1)}, api.ErrLimit},
		{api.Message{Kind: 1, Text: long[:200], List: numbers(64, most+1)}, api.ErrRange},
		{api.Message{Kind: 1, List: append(numbers(63, most), most+1)}, api.ErrRange},
		{api.Message{Kind: 1, List: append(numbers(63, -most), -most)}, api.OK},
	}
}

func TestValidateErrorOrder(t *testing.T) {
	for i, x := range disordered() {
		if err := message.Validate(x.m); err != x.want {
			t.Errorf("%d: Validate = %d, want %d", i, err, x.want)
		}
	}
}

// P7.2

// examples has messages and their encodings.
func examples() []struct {
	m    api.Message
	text string
} {
	return []struct {
		m    api.Message
		text string
	}{
		{api.Message{Kind: 1, From: 2, To: 3, Number: 4, Day: 5, Lot: 6}, "MSG+1+2+3+4+5'LOT+6+0'END+3+4'"},
		{plain(), plainText},
		{api.Message{Kind: 1}, "MSG+1+0+0+0+0'END+2+0'"},
		{api.Message{Kind: 60, From: 999, To: 999, Number: 1000000000, Day: 36524}, "MSG+60+999+999+1000000000+36524'END+2+1000000000'"},
		{api.Message{Kind: 10, Lot: 1000000000, Other: 1000000000}, "MSG+10+0+0+0+0'LOT+1000000000+1000000000'END+3+0'"},
		{api.Message{Kind: 1, Other: 6}, "MSG+1+0+0+0+0'LOT+0+6'END+3+0'"},
		{api.Message{Kind: 1, Code: "01"}, "MSG+1+0+0+0+0'GDS+01++0+0'END+3+0'"},
		{api.Message{Kind: 1, Code: "0102"}, "MSG+1+0+0+0+0'GDS+0102++0+0'END+3+0'"},
		{api.Message{Kind: 1, Code: "000000"}, "MSG+1+0+0+0+0'GDS+000000++0+0'END+3+0'"},
		{api.Message{Kind: 1, Code: "01020304"}, "MSG+1+0+0+0+0'GDS+01020304++0+0'END+3+0'"},
		{api.Message{Kind: 1, Country: "CH"}, "MSG+1+0+0+0+0'GDS++CH+0+0'END+3+0'"},
		{api.Message{Kind: 1, Quantity: 1000000000}, "MSG+1+0+0+0+0'GDS+++1000000000+0'END+3+0'"},
		{api.Message{Kind: 1, Amount: 1000000000000}, "MSG+1+0+0+0+0'GDS+++0+1000000000000'END+3+0'"},
		{api.Message{Kind: 1, Amount: -1000000000000}, "MSG+1+0+0+0+0'GDS+++0+-1000000000000'END+3+0'"},
		{api.Message{Kind: 1, Amount: -1}, "MSG+1+0+0+0+0'GDS+++0+-1'END+3+0'"},
		{api.Message{Kind: 1, List: []int{0}}, "MSG+1+0+0+0+0'LST+0'END+3+0'"},
		{api.Message{Kind: 1, List: []int{0, 0}}, "MSG+1+0+0+0+0'LST+0:0'END+3+0'"},
		{api.Message{Kind: 1, List: []int{1000000000000, -1000000000000, -1}}, "MSG+1+0+0+0+0'LST+1000000000000:-1000000000000:-1'END+3+0'"},
		{api.Message{Kind: 1, List: numbers(64, 7)}, "MSG+1+0+0+0+0'LST+7" + strings.Repeat(":7", 63) + "'END+3+0'"},
		{api.Message{Kind: 1, Text: "x"}, "MSG+1+0+0+0+0'TXT+x'END+3+0'"},
		{api.Message{Kind: 1, Text: " "}, "MSG+1+0+0+0+0'TXT+ 'END+3+0'"},
		{api.Message{Kind: 1, Text: "\x00\xff\n"}, "MSG+1+0+0+0+0'TXT+\x00\xff\n'END+3+0'"},
		{api.Message{Kind: 1, Text: "0"}, "MSG+1+0+0+0+0'TXT+0'END+3+0'"},
		{api.Message{Kind: 1, Text: "END+3+0'"}, "MSG+1+0+0+0+0'TXT+END?+3?+0?''END+3+0'"},
		{api.Message{Kind: 1, Text: "?:+'"}, "MSG+1+0+0+0+0'TXT+???:?+?''END+3+0'"},
		{api.Message{Kind: 1, Text: strings.Repeat("?", 200)}, "MSG+1+0+0+0+0'TXT+" + strings.Repeat("??", 200) + "'END+3+0'"},
		{api.Message{Kind: 2, Lot: 1, Amount: 2, Text: "x"}, "MSG+2+0+0+0+0'LOT+1+0'GDS+++0+2'TXT+x'END+5+0'"},
		{api.Message{Kind: 2, Other: 1, List: []int{-5}, Number: 9}, "MSG+2+0+0+9+0'LOT+0+1'LST+-5'END+4+9'"},
		{api.Message{Kind: 2, Code: "99", Text: "y"}, "MSG+2+0+0+0+0'GDS+99++0+0'TXT+y'END+4+0'"},
	}
}

// segmentsOf returns the segments whose encoding is text.
func segmentsOf(t *testing.T, text string) []api.Segment {
	t.Helper()
	l, _, err := segment.Decode([]byte(text))
	if err != api.OK {
		t.Fatalf("segment.Decode(%q) = %d", text, err)
	}
	return l
}

func TestExamples(t *testing.T) {
	for _, x := range examples() {
		want := segmentsOf(t, x.text)
		if l, err := message.Segments(x.m); !slices.EqualFunc(l, want, sameSegment) || err != api.OK {
			t.Errorf("Segments(%v) = %q, %d, want %q", x.m, l, err, want)
		}
		if b, err := message.Encode(x.m); string(b) != x.text || err != api.OK {
			t.Errorf("Encode(%v) = %q, %d, want %q", x.m, b, err, x.text)
		}
		if m, err := message.Parse(want); !same(m, x.m) || err != api.OK {
			t.Errorf("Parse(%q) = %v, %d, want %v", want, m, err, x.m)
		}
		if m, err := message.Decode([]byte(x.text)); !same(m, x.m) || err != api.OK {
			t.Errorf("Decode(%q) = %v, %d, want %v", x.text, m, err, x.m)
		}
	}
}

// The elements themselves, not through package segment.
func TestElements(t *testing.T) {
	want := []api.Segment{
		{Tag: "MSG", Elements: [][]string{{"1"}, {"2"}, {"3"}, {"4"}, {"5"}}},
		{Tag: "GDS", Elements: [][]string{nil, nil, {"0"}, {"-6"}}},
		{Tag: "LST", Elements: [][]string{{"7", "-8", "0"}}},
		{Tag: "TXT", Elements: [][]string{{"a:b"}}},
		{Tag: "END", Elements: [][]string{{"5"}, {"4"}}},
	}
	m := with(func(m *api.Message) { m.Amount, m.List, m.Text = -6, []int{7, -8, 0}, "a:b" })
	if l, err := message.Segments(m); !slices.EqualFunc(l, want, sameSegment) || err != api.OK {
		t.Errorf("Segments(%v) = %q, %d, want %q", m, l, err, want)
	}
	for _, none := range [][]string{nil, {}} {
		want[1].Elements[0], want[1].Elements[1] = none, none
		if got, err := message.Parse(want); !same(got, m) || err != api.OK {
			t.Errorf("Parse(%q) = %v, %d, want %v", want, got, err, m)
		}
	}
	// Nil and empty lists are the same.
	for _, list := range [][]int{nil, {}} {
		b, err := message.Encode(api.Message{Kind: 1, List: list})
		if string(b) != "MSG+1+0+0+0+0'END+2+0'" || err != api.OK {
			t.Errorf("Encode with the List %v = %q, %d", list, b, err)
		}
	}
}

func TestInvalidHasNoSegments(t *testing.T) {
	for i, x := range append(disordered(), lengths()...) {
		l, err := message.Segments(x.m)
		if err != x.want || (err == api.OK) != (len(l) > 0) {
			t.Errorf("%d: Segments = %q, %d, want %d", i, l, err, x.want)
		}
		b, err := message.Encode(x.m)
		if err != x.want || (err == api.OK) != (len(b) > 0) {
			t.Errorf("%d: Encode = %q, %d, want %d", i, b, err, x.want)
		}
	}
}

// What is not valid is not parsed, even if it is written as P7.2 says.
func TestInvalidIsNotParsed(t *testing.T) {
	check := func(m api.Message, want api.Errno) {
		t.Helper()
		text := encodingOf(m)
		if want != api.OK {
			want = api.ErrSyntax
		}
		got, err := message.Decode([]byte(text))
		if err != want || err == api.OK && !same(got, m) || err != api.OK && !isZero(got) {
			t.Errorf("Decode(%q) = %v, %d, want %d", text, got, err, want)
		}
	}
	for _, f := range fields() {
		for _, n := range []int{f.low, f.high} {
			m := plain()
			f.set(&m, n)
			check(m, api.OK)
		}
		for _, n := range []int{f.low - 1, f.high + 1, math.MinInt, math.MaxInt} {
			m := plain()
			f.set(&m, n)
			check(m, api.ErrRange)
		}
	}
	for _, x := range append(disordered(), lengths()...) {
		check(x.m, x.want)
	}
	for _, code := range []string{"1", "123", "1234567890", "AB", "1 "} {
		check(with(func(m *api.Message) { m.Code = code }), api.ErrInvalid)
	}
	for _, country := range []string{"N", "NOR", "no", "12"} {
		check(with(func(m *api.Message) { m.Country = country }), api.ErrInvalid)
	}
}

// encodingOf writes a message by the words of P7.2, valid or not.
func encodingOf(m api.Message) string {
	l := []string{fmt.Sprintf("MSG+%d+%d+%d+%d+%d'", m.Kind, m.From, m.To, m.Number, m.Day)}
	if m.Lot != 0 || m.Other != 0 {
		l = append(l, fmt.Sprintf("LOT+%d+%d'", m.Lot, m.Other))
	}
	if m.Code != "" || m.Country != "" || m.Quantity != 0 || m.Amount != 0 {
		l = append(l, fmt.Sprintf("GDS+%s+%s+%d+%d'", m.Code, m.Country, m.Quantity, m.Amount))
	}
	if len(m.List) > 0 {
		list := strings.Trim(fmt.Sprint(m.List), "[]")
		l = append(l, "LST+"+strings.ReplaceAll(list, " ", ":")+"'")
	}
	if m.Text != "" {
		marked := strings.NewReplacer("+", "?+", ":", "?:", "?", "??", "'", "?'")
		l = append(l, "TXT+"+marked.Replace(m.Text)+"'")
	}
	return strings.Join(l, "") + fmt.Sprintf("END+%d+%d'", len(l)+1, m.Number)
}

func TestDecodeErrors(t *testing.T) {
	for _, x := range []struct {
		text string
		want api.Errno
	}{
		// The segments come first.
		{"MSG", api.ErrTorn}, {"MSG+1+2+3+4+5'END+2+4", api.ErrTorn}, {"MSG+1+2+3+4+5'END+9+4", api.ErrTorn}, {"X'MSG", api.ErrSyntax}, {"ABC'MSG", api.ErrTorn}, {"MSG+1+2+3+4+5'END+2+4'X", api.ErrTorn}, {"MSG+1+2+3+4+5'END+9+4'x'", api.ErrSyntax}, {"MSG+1+2+3+4+5'END+9+'", api.ErrSyntax}, {"MSG+1+2+3+4+5'END+9:+4'", api.ErrSyntax},
		// Missing, repeated and exchanged segments.
		{"", api.ErrSyntax}, {"END'", api.ErrSyntax}, {"MSG'", api.ErrSyntax}, {"END+1+4'", api.ErrSyntax}, {"MSG+1+2+3+4+5'", api.ErrSyntax}, {"END+2+4'MSG+1+2+3+4+5'", api.ErrSyntax},
		{"LOT+6+7'END+2+0'", api.ErrSyntax},
		{"MSG+1+2+3+4+5'MSG+1+2+3+4+5'END+3+4'", api.ErrSyntax},
		{"MSG+1+2+3+4+5'END+2+4'END+2+4'", api.ErrSyntax}, {"MSG+1+2+3+4+5'END+3+4'END+3+4'", api.ErrSyntax},
		{"MSG+1+2+3+4+5'END+2+4'MSG+1+2+3+4+5'END+2+4'", api.ErrSyntax},
		{"MSG+1+2+3+4+5'LOT+6+7'LOT+6+7'END+4+4'", api.ErrSyntax},
		{"MSG+1+2+3+4+5'GDS+++1+0'LOT+6+7'END+4+4'", api.ErrSyntax},
		{"MSG+1+2+3+4+5'TXT+x'LST+1'END+4+4'", api.ErrSyntax},
		{"MSG+1+2+3+4+5'LST+1'LST+2'END+4+4'", api.ErrSyntax},
		{"LOT+6+7'MSG+1+2+3+4+5'END+3+4'", api.ErrSyntax},
		{"MSG+1+2+3+4+5'ABC'END+3+4'", api.ErrSyntax}, {"ABC'MSG+1+2+3+4+5'END+3+4'", api.ErrSyntax}, {"MSG+1+2+3+4+5'END+3+4'ABC'", api.ErrSyntax}, {"MSG+1+2+3+4+5'EN2+2+4'", api.ErrSyntax}, {"MS1+1+2+3+4+5'END+2+4'", api.ErrSyntax},
		// Segments that must be left out.
		{"MSG+1+2+3+4+5'LOT+0+0'END+3+4'", api.ErrSyntax}, {"MSG+1+2+3+4+5'LOT'END+3+4'", api.ErrSyntax}, {"MSG+1+2+3+4+5'GDS+++0+0'END+3+4'", api.ErrSyntax}, {"MSG+1+2+3+4+5'GDS'END+3+4'", api.ErrSyntax}, {"MSG+1+2+3+4+5'LST'END+3+4'", api.ErrSyntax}, {"MSG+1+2+3+4+5'TXT'END+3+4'", api.ErrSyntax},
		// Too few and too many elements.
		{"MSG+1+2+3+4'END+2+4'", api.ErrSyntax}, {"MSG+1+2+3+4+5+6'END+2+4'", api.ErrSyntax}, {"MSG+1+2+3+4+5+0'END+2+4'", api.ErrSyntax}, {"MSG++2+3+4+5'END+2+4'", api.ErrSyntax}, {"MSG+1++3+4+5'END+2+4'", api.ErrSyntax}, {"MSG+1+2+3++5'END+2+0'", api.ErrSyntax}, {"MSG+1+2+3++5'END+2+4'", api.ErrSyntax},
		{"MSG+1+2+3+4+5'LOT+6'END+3+4'", api.ErrSyntax}, {"MSG+1+2+3+4+5'LOT++6'END+3+4'", api.ErrSyntax}, {"MSG+1+2+3+4+5'LOT+6+7+8'END+3+4'", api.ErrSyntax},
		{"MSG+1+2+3+4+5'GDS+01'END+3+4'", api.ErrSyntax}, {"MSG+1+2+3+4+5'GDS+01+NO+1'END+3+4'", api.ErrSyntax}, {"MSG+1+2+3+4+5'GDS+01+NO++1'END+3+4'", api.ErrSyntax}, {"MSG+1+2+3+4+5'GDS+01+NO+1+1+1'END+3+4'", api.ErrSyntax},
		{"MSG+1+2+3+4+5'LST+1+2'END+3+4'", api.ErrSyntax}, {"MSG+1+2+3+4+5'LST++1'END+3+4'", api.ErrSyntax}, {"MSG+1+2+3+4+5'TXT+x+y'END+3+4'", api.ErrSyntax}, {"MSG+1+2+3+4+5'TXT++x'END+3+4'", api.ErrSyntax},
		{"MSG+1+2+3+4+5'END'", api.ErrSyntax}, {"MSG+1+2+3+4+5'END+2'", api.ErrSyntax}, {"MSG+1+2+3+4+5'END+2+4+4'", api.ErrSyntax}, {"MSG+1+2+3+4+5'END+9'", api.ErrSyntax}, {"MSG+1+2+3+4+5'END+9+4+4'", api.ErrSyntax}, {"MSG+1+2+3+0+5'END+2'", api.ErrSyntax},
		// Too many components.
		{"MSG+1:1+2+3+4+5'END+2+4'", api.ErrSyntax}, {"MSG+1+2+3+4+5'LOT+6+7:8'END+3+4'", api.ErrSyntax}, {"MSG+1+2+3+4+5'GDS+01:02+NO+1+1'END+3+4'", api.ErrSyntax}, {"MSG+1+2+3+4+5'GDS+01+NO:NO+1+1'END+3+4'", api.ErrSyntax}, {"MSG+1+2+3+4+5'GDS+:01++1+1'END+3+4'", api.ErrSyntax}, {"MSG+1+2+3+4+5'TXT+x:y'END+3+4'", api.ErrSyntax}, {"MSG+1+2+3+4+5'TXT+:y'END+3+4'", api.ErrSyntax}, {"MSG+1+2+3+4+5'LST+1::2'END+3+4'", api.ErrSyntax}, {"MSG+1+2+3+4+5'LST+:2'END+3+4'", api.ErrSyntax}, {"MSG+1+2+3+4+5'END+2+4:4'", api.ErrSyntax},
		// Numbers that are not written so.
		{"MSG+01+2+3+4+5'END+2+4'", api.ErrSyntax}, {"MSG+1+00+3+4+5'END+2+4'", api.ErrSyntax}, {"MSG+1+2+-0+4+5'END+2+4'", api.ErrSyntax}, {"MSG+?+1+2+3+4+5'END+2+4'", api.ErrSyntax}, {"MSG+1 +2+3+4+5'END+2+4'", api.ErrSyntax}, {"MSG+1+2+3+4+0x5'END+2+4'", api.ErrSyntax}, {"MSG+1+2+3+4+x'END+2+4'", api.ErrSyntax}, {"MSG+1+2+3+4+5.0'END+2+4'", api.ErrSyntax}, {"MSG+1+2+3+1_0+5'END+2+10'", api.ErrSyntax}, {"MSG+1+2+3+1e1+5'END+2+10'", api.ErrSyntax}, {"MSG+1+2+3+\u0664+5'END+2+4'", api.ErrSyntax},
		{"MSG+1+2+3+4+5'END+2+04'", api.ErrSyntax}, {"MSG+1+2+3+4+5'GDS+++0+--1'END+3+4'", api.ErrSyntax}, {"MSG+1+2+3+4+5'GDS+++0+-01'END+3+4'", api.ErrSyntax}, {"MSG+1+2+3+4+5'LST+-0'END+3+4'", api.ErrSyntax}, {"MSG+1+2+3+4+5'LST+1:x'END+3+4'", api.ErrSyntax},
		{"MSG+18446744073709551617+2+3+4+5'END+2+4'", api.ErrSyntax}, {"MSG+1+2+3+18446744073709551620+5'END+2+4'", api.ErrSyntax}, {"MSG+1+2+3+4+5'LST+18446744073709551617'END+3+4'", api.ErrSyntax}, {"MSG+1+2+3+" + strings.Repeat("9", 999) + "+5'END+2+4'", api.ErrSyntax},
		// Another number at the end.
		{"MSG+1+2+3+4+5'END+2+5'", api.ErrSyntax}, {"MSG+1+2+3+4+5'END+2+0'", api.ErrSyntax}, {"MSG+1+2+3+4+5'END+2+-4'", api.ErrSyntax}, {"MSG+1+2+3+4+5'END+9+5'", api.ErrSyntax},
		// Another count.
		{"MSG+1+2+3+4+5'END+1+4'", api.ErrChecksum}, {"MSG+1+2+3+4+5'END+3+4'", api.ErrChecksum}, {"MSG+1+2+3+4+5'END+0+4'", api.ErrChecksum}, {"MSG+1+2+3+4+5'END+02+4'", api.ErrChecksum}, {"MSG+1+2+3+4+5'END+-2+4'", api.ErrChecksum}, {"MSG+1+2+3+4+5'END+?+2+4'", api.ErrChecksum}, {"MSG+1+2+3+4+5'END+20+4'", api.ErrChecksum}, {"MSG+1+2+3+4+5'END+18446744073709551618+4'", api.ErrChecksum}, {"MSG+1+2+3+4+5'END+2 +4'", api.ErrChecksum},
		{"MSG+1+2+3+4+5'END++4'", api.ErrChecksum}, {"MSG+1+2+3+4+5'END+x+4'", api.ErrChecksum}, {"MSG+1+2+3+4+5'END+2:2+4'", api.ErrChecksum}, {"MSG+1+2+3+4+5'END+:2+4'", api.ErrChecksum}, {"MSG+1+2+3+4+5'END+2::x+4'", api.ErrChecksum}, {"MSG+1+2+3+4+5'END+?'+4'", api.ErrChecksum}, {"MSG+1+2+3+4+5'LOT+6+7'END+2+4'", api.ErrChecksum}, {"MSG+1+2+3+4+5'LOT+6+7'TXT+x'END+3+4'", api.ErrChecksum},
		// Another count, and more.
		{"MSG+0+2+3+4+5'END+9+4'", api.ErrSyntax}, {"MSG+1+2+3+4+5'LOT+0+0'END+2+4'", api.ErrSyntax}, {"MSG+1+2+3+4+5'END+9+4'END+3+4'", api.ErrSyntax}, {"MSG+1+2+3+4+5'END+2+4'END+9+4'", api.ErrSyntax}, {"MSG+1+2+3+4+5'GDS+1++0+0'END+9+4'", api.ErrSyntax}, {"MSG+1+2+3+4+5'ABC+9+4'", api.ErrSyntax}, {"END+9+4'", api.ErrSyntax}, {"END+9+0'", api.ErrSyntax},
	} {
		if m, err := message.Decode([]byte(x.text)); !isZero(m) || err != x.want {
			t.Errorf("Decode(%q) = %v, %d, want %d", x.text, m, err, x.want)
		}
	}
	if m, err := message.Decode(nil); !isZero(m) || err != api.ErrSyntax {
		t.Errorf("Decode(nil) = %v, %d, want ErrSyntax", m, err)
	}
	for _, l := range [][]api.Segment{nil, {}, {{}}, {{}, {}}} {
		if m, err := message.Parse(l); !isZero(m) || err != api.ErrSyntax {
			t.Errorf("Parse(%q) = %v, %d, want ErrSyntax", l, m, err)
		}
	}
}

// Segments that are not valid have no encoding, but can be parsed.
func TestParseOfInvalidSegments(t *testing.T) {
	end := func(elements ...[]string) []api.Segment {
		return []api.Segment{{Tag: "MSG", Elements: [][]string{{"1"}, {"2"}, {"3"}, {"4"}, {"5"}}}, {Tag: "END", Elements: elements}}
	}
	txt := func(tag string, elements ...[]string) []api.Segment {
		l := end([]string{"3"}, []string{"4"})
		return slices.Insert(l, 1, api.Segment{Tag: tag, Elements: elements})
	}
	number := []string{"4"}
	for i, x := range []struct {
		l    []api.Segment
		want api.Errno
	}{
		{end([]string{"2"}, number), api.OK},
		{end([]string{""}, number), api.ErrChecksum},
		{end([]string{"2", ""}, number), api.ErrChecksum},
		{end([]string{"", "2"}, number), api.ErrChecksum},
		{end([]string{strings.Repeat("2", 1001)}, number), api.ErrChecksum},
		{end(slices.Repeat([]string{"2"}, 101), number), api.ErrChecksum},
		{end([]string{"2"}, number, nil), api.ErrSyntax},
		{end([]string{"9"}, number, nil), api.ErrSyntax},
		{end([]string{"2"}, []string{"4", ""}), api.ErrSyntax},
		{end([]string{"2"}, nil), api.ErrSyntax},
		{end(nil, nil), api.ErrSyntax},
		{end([]string{"2"}), api.ErrSyntax},
		{end(), api.ErrSyntax},
		{txt("TXT", []string{"x"}), api.OK},
		{txt("TXT", []string{""}), api.ErrSyntax},
		{txt("TXT", nil), api.ErrSyntax},
		{txt("TXT"), api.ErrSyntax},
		{txt("TXT", []string{"x", ""}), api.ErrSyntax},
		{txt("TXT", []string{"x"}, nil), api.ErrSyntax},
		{txt("txt", []string{"x"}), api.ErrSyntax},
		{txt("", []string{"x"}), api.ErrSyntax},
		{txt("TXT", []string{strings.Repeat("x", 200)}), api.OK},
		{txt("TXT", []string{strings.Repeat("x", 1001)}), api.ErrSyntax},
		{txt("LST", slices.Repeat([]string{"1"}, 64)), api.OK},
		{txt("LST", slices.Repeat([]string{"1"}, 65)), api.ErrSyntax},
		{txt("LST", slices.Repeat([]string{"1"}, 101)), api.ErrSyntax},
		{txt("LST", slices.Repeat([]string{"1"}, 100000)), api.ErrSyntax},
		{txt("LST", nil), api.ErrSyntax},
		{txt("LST", []string{""}), api.ErrSyntax},
		{txt("LST", []string{"1", ""}), api.ErrSyntax},
		{txt("GDS", []string{""}, []string{""}, []string{"1"}, []string{"1"}), api.ErrSyntax},
		{txt("GDS", nil, nil, []string{"1"}, []string{"1"}), api.OK},
		{txt("GDS", nil, nil, []string{"1"}, []string{"1"}, nil), api.ErrSyntax},
		{slices.Repeat(end([]string{"2"}, number), 10000), api.ErrSyntax},
		{txt("LOT", slices.Repeat([][]string{{"1"}}, 10000)...), api.ErrSyntax},
	} {
		if m, err := message.Parse(x.l); err != x.want || (err == api.OK) == isZero(m) {
			t.Errorf("%d: Parse = %v, %d, want %d", i, m, err, x.want)
		}
	}
}

// What the parts of an encoding look like.
const (
	digits    = `(0|-?[1-9][0-9]{0,17})`
	oneByte   = `(?:[^+:?']|\?[+:?'])`
	component = `(` + oneByte + `+)`
	element   = `((?:` + oneByte + `*:)*` + oneByte + `+)?`
)

// form is the form of a message whose segments are valid, whatever the first element of END is.
var form = regexp.MustCompile(`(?s)^MSG\+` + digits + `\+` + digits + `\+` + digits + `\+` + digits + `\+` + digits + `'` +
	`(LOT\+` + digits + `\+` + digits + `')?` +
	`(GDS\+(\d*)\+([A-Z]*)\+` + digits + `\+` + digits + `')?` +
	`(LST\+(` + digits + `(?::` + digits + `)*)')?` +
	`(TXT\+` + component + `')?` +
	`END\+` + element + `\+` + digits + `'$`)

// expectedMessage returns the message that text has, and with which error, by the words of P7.2; text consists of valid segments.
func expectedMessage(text string) (api.Message, api.Errno) {
	f := form.FindStringSubmatch(text)
	if f == nil || f[6] == "LOT+0+0'" || f[9] == "GDS+++0+0'" || f[21] != f[4] {
		return api.Message{}, api.ErrSyntax
	}
	n := func(i int) int {
		n, _ := strconv.Atoi(f[i])
		return n
	}
	m := api.Message{Kind: n(1), From: n(2), To: n(3), Number: n(4), Day: n(5), Lot: n(7), Other: n(8), Code: f[10], Country: f[11], Quantity: n(12), Amount: n(13)}
	if f[14] != "" {
		for _, s := range strings.Split(f[15], ":") {
			n, _ := strconv.Atoi(s)
			m.List = append(m.List, n)
		}
	}
	m.Text = strings.NewReplacer("?+", "+", "?:", ":", "??", "?", "?'", "'").Replace(f[19])
	if message.Validate(m) != api.OK {
		return api.Message{}, api.ErrSyntax
	}
	count := 2
	for _, i := range []int{6, 9, 14, 18} {
		if f[i] != "" {
			count++
		}
	}
	if f[20] != strconv.Itoa(count) {
		return api.Message{}, api.ErrChecksum
	}
	return m, api.OK
}

// expectedDecode returns the message whose encoding is text, or the error.
func expectedDecode(text string) (api.Message, api.Errno) {
	if _, _, err := segment.Decode([]byte(text)); err != api.OK {
		return api.Message{}, err
	}
	return expectedMessage(text)
}

// checkDecode holds Decode and Parse against the words of P7.2.
func checkDecode(t *testing.T, text string) api.Errno {
	t.Helper()
	want, wantErr := expectedDecode(text)
	m, err := message.Decode([]byte(text))
	if !same(m, want) || err != wantErr {
		t.Errorf("Decode(%q) = %v, %d, want %v, %d", text, m, err, want, wantErr)
	}
	l, _, e := segment.Decode([]byte(text))
	if e == api.OK {
		if m, err := message.Parse(l); !same(m, want) || err != wantErr {
			t.Errorf("Parse(%q) = %v, %d, want %v, %d", l, m, err, want, wantErr)
		}
	}
	if err == api.OK {
		if b, err := message.Encode(m); string(b) != text || err != api.OK {
			t.Errorf("Decode(%q) = %v, whose encoding is %q, %d", text, m, b, err)
		}
	}
	return wantErr
}

// checkTexts calls check for all texts of up to length parts.
func checkTexts(parts []string, length int, text string, check func(text string)) {
	check(text)
	if length == 0 {
		return
	}
	for _, p := range parts {
		checkTexts(parts, length-1, text+p, check)
	}
}

func TestDecodeOfAllShortTexts(t *testing.T) {
	for _, x := range []struct {
		start  string
		parts  []string
		length int
	}{
		{"MSG+1+0+0+4+0'", []string{"LOT+1+0'", "LOT+0+0'", "GDS+01++0+0'", "GDS+++0+0'", "LST+1'", "TXT+x'", "END+2+4'", "END+3+4'", "END+9+5'"}, 4},
		{"MSG+1+0+0+4+0'", []string{"LOT", "LST", "+", ":", "0", "1", "'", "'END+3+4'"}, 5},
		{"MSG+1+0+0", []string{"+1", "+0", "-", "1", "+", "'END+2", "'"}, 6},
		{"MSG+1+0+0+4+0'GDS", []string{"+", "01", "+1", "+NO", "-", "+0", "'END+3+4'"}, 6},
		{"MSG+1+0+0+4+0'TXT", []string{"+", "?", "'", ":", "x", "'END+3+4'", "END"}, 6},
		{"MSG+1+0+0+4+0'END", []string{"+", "2", "+4", ":", "?", "'"}, 6},
		{"MSG+1+0+0+4+0'LST+1", []string{"0", ":1", ":", "-", ":-", "'END+3+4'"}, 6},
	} {
		found := map[api.Errno]int{}
		checkTexts(x.parts, x.length, x.start, func(text string) { found[checkDecode(t, text)]++ })
		if found[api.OK] == 0 || found[api.ErrSyntax] == 0 {
			t.Errorf("the texts with %q have the results %v", x.start, found)
		}
	}
}

// randomText returns a text of up to most bytes, among which there are all those that structure an encoding.
func randomText(r *rand.Rand, most int) string {
	const pieces = "+:?'+:?'aE0 \n\x00\xff\xc3\xa9"
	b := make([]byte, r.Intn(most+1))
	for i := range b {
		b[i] = pieces[r.Intn(len(pieces))]
	}
	return string(b)
}

// within returns a number from low to high, often one of both, or 0.
func within(r *rand.Rand, low, high int) int {
	switch r.Intn(6) {
	case 0:
		return low
	case 1:
		return high
	case 2, 3:
		return max(0, low)
	}
	return low + r.Intn(high-low+1)
}

func randomMessage(r *rand.Rand) api.Message {
	const most = 1000000000000
	m := api.Message{Kind: within(r, 1, 60), From: within(r, 0, 999), To: within(r, 0, 999), Number: within(r, 0, 1000000000), Day: within(r, 0, 36524), Lot: within(r, 0, 1000000000), Other: within(r, 0, 1000000000), Quantity: within(r, 0, 1000000000), Amount: within(r, -most, most)}
	m.Code = "0192837465"[:2*r.Intn(5)]
	if r.Intn(2) == 0 {
		m.Country = string([]byte{byte('A' + r.Intn(26)), byte('A' + r.Intn(26))})
	}
	if r.Intn(2) == 0 {
		m.List = make([]int, r.Intn(65))
	}
	for i := range m.List {
		m.List[i] = within(r, -most, most)
	}
	if r.Intn(2) == 0 {
		m.Text = randomText(r, 200)
	}
	return m
}

func TestDecodeReturnsWhatWasEncoded(t *testing.T) {
	r := rand.New(rand.NewSource(7))
	for range 10000 {
		m := randomMessage(r)
		want := encodingOf(m)
		b, err := message.Encode(m)
		if string(b) != want || err != api.OK {
			t.Fatalf("Encode(%v) = %q, %d, want %q", m, b, err, want)
		}
		if got, err := message.Decode(b); !same(got, m) || err != api.OK {
			t.Fatalf("Decode(%q) = %v, %d, want %v", b, got, err, m)
		}
		if got, want := expectedMessage(want); !same(got, m) || want != api.OK {
			t.Fatalf("the words of P7.2 return %v, %d for %v", got, want, m)
		}
		checkSegments(t, m, want)
	}
}

// checkSegments holds Segments and Parse against the segments whose encoding is text.
func checkSegments(t *testing.T, m api.Message, text string) {
	t.Helper()
	want := segmentsOf(t, text)
	if l, err := message.Segments(m); !slices.EqualFunc(l, want, sameSegment) || err != api.OK {
		t.Errorf("Segments(%v) = %q, %d, want %q", m, l, err, want)
	}
	if got, err := message.Parse(want); !same(got, m) || err != api.OK {
		t.Errorf("Parse(%q) = %v, %d, want %v", want, got, err, m)
	}
}

// smallMessage returns a message with short fields, in which a change is often a message again.
func smallMessage(r *rand.Rand) api.Message {
	m := api.Message{Kind: 1 + r.Intn(12), From: r.Intn(12), To: r.Intn(12), Number: r.Intn(12), Day: r.Intn(12), Lot: r.Intn(2), Other: r.Intn(2), Quantity: r.Intn(2), Amount: r.Intn(3) - 1, List: make([]int, r.Intn(3)), Text: randomText(r, 2)}
	m.Code, m.Country = "0123"[:2*r.Intn(3)], "NO"[:2*r.Intn(2)]
	return m
}

// changed returns b with some bytes or segments replaced, put in or taken out.
func changed(r *rand.Rand, b []byte) []byte {
	pieces := []string{"", "0", "1", "2", "3", "4", "-", "+", ":", "?", "'", "LOT+1+0'", "LOT", "GDS+++0+1'", "LST+1'", "TXT+x'", "END+2+0'", "MSG", "UNZ", "NO", "01"}
	b = slices.Clone(b)
	for range 1 + r.Intn(2) {
		if l := ends(b); r.Intn(3) == 0 && len(l) > 1 {
			i := r.Intn(len(l) - 1)
			b = slices.Replace(b, l[i], l[i+1], []byte(pieces[r.Intn(len(pieces))])...)
			continue
		}
		i := r.Intn(len(b) + 1)
		j := min(len(b), i+r.Intn(3))
		b = slices.Replace(b, i, j, []byte(pieces[r.Intn(len(pieces))])...)
	}
	return b
}

// ends returns 0 and the indexes behind the apostrophes of b.
func ends(b []byte) []int {
	l := []int{0}
	for i, c := range b {
		if c == '\'' {
			l = append(l, i+1)
		}
	}
	return l
}

func TestDecodeAcceptsEncodingsOnly(t *testing.T) {
	r := rand.New(rand.NewSource(76))
	found := map[api.Errno]int{}
	for range 80000 {
		b, _ := message.Encode(smallMessage(r))
		found[checkDecode(t, string(changed(r, b)))]++
	}
	for _, e := range []api.Errno{api.OK, api.ErrTorn, api.ErrSyntax, api.ErrChecksum} {
		if found[e] < 500 {
			t.Errorf("changed messages have the results %v", found)
		}
	}
}

// R2 and R3: the arguments stay as they are, and a result shares no memory with them or with other results.
func TestArgumentsAreLeftAlone(t *testing.T) {
	spare := []int{11, -12, 0, 77}
	m := plain()
	m.List = spare[:3]
	for range 2 {
		message.Validate(m)
		l, _ := message.Segments(m)
		again, _ := message.Segments(m)
		first, _ := message.Encode(m)
		second, _ := message.Encode(m)
		if !same(m, plain()) || spare[3] != 77 {
			t.Fatalf("the message became %v, %v", m, spare)
		}
		clear(first[:cap(first)])
		for _, s := range l {
			scribble(s)
		}
		if string(second) != plainText || !slices.EqualFunc(again, segmentsOf(t, plainText), sameSegment) {
			t.Fatalf("the results share memory: %q, %q", second, again)
		}
	}
}

// The segments of one result share no memory either.
func TestSegmentsShareNoMemory(t *testing.T) {
	l, _ := message.Segments(plain())
	for i := range l {
		_ = append(l[i].Elements, []string{"overwritten"})
		for _, components := range l[i].Elements {
			_ = append(components, "overwritten")
		}
	}
	if !slices.EqualFunc(l, segmentsOf(t, plainText), sameSegment) {
		t.Errorf("the segments share memory: %q", l)
	}
}

func TestSegmentsAreLeftAlone(t *testing.T) {
	for _, text := range []string{plainText, strings.Replace(plainText, "END+6", "END+7", 1), strings.TrimSuffix(plainText, "END+6+4'")} {
		l, want := segmentsOf(t, text), segmentsOf(t, text)
		m, err := message.Parse(l)
		again, _ := message.Parse(l)
		if !slices.EqualFunc(l, want, sameSegment) {
			t.Fatalf("the segments became %q", l)
		}
		for _, s := range l {
			scribble(s)
		}
		clear(m.List[:cap(m.List)])
		if err == api.OK && !same(again, plain()) {
			t.Errorf("the results share memory: %v", again)
		}
	}
}

func TestTextIsLeftAlone(t *testing.T) {
	b := append([]byte(plainText), "spare"...)[:len(plainText)]
	m, _ := message.Decode(b)
	again, _ := message.Decode(b)
	message.Checksum(b)
	if string(b[:len(plainText)+5]) != plainText+"spare" {
		t.Fatalf("the text became %q", b[:len(plainText)+5])
	}
	clear(b)
	clear(m.List[:cap(m.List)])
	if !same(again, plain()) {
		t.Errorf("the results share memory: %v", again)
	}
}

// scribble overwrites all memory of a segment.
func scribble(s api.Segment) {
	for _, components := range s.Elements[:cap(s.Elements)] {
		components = components[:cap(components)]
		for i := range components {
			components[i] = "overwritten"
		}
	}
	clear(s.Elements[:cap(s.Elements)])
}
