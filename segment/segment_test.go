package segment_test

import (
	"bytes"
	"math/rand"
	"reflect"
	"regexp"
	"slices"
	"strings"
	"testing"

	"customs/api"
	"customs/segment"
)

// lot returns a segment with the tag LOT.
func lot(elements ...[]string) api.Segment {
	return api.Segment{Tag: "LOT", Elements: elements}
}

// texts returns n equal texts.
func texts(n int, text string) []string {
	return slices.Repeat([]string{text}, n)
}

// elements returns n elements that have the component 1.
func elements(n int) [][]string {
	l := make([][]string, n)
	for i := range l {
		l[i] = []string{"1"}
	}
	return l
}

// everyByte is a text of all 256 bytes.
func everyByte() string {
	b := make([]byte, 256)
	for i := range b {
		b[i] = byte(i)
	}
	return string(b)
}

// same tells whether two segments are equal; elements that are nil and empty are.
func same(a, b api.Segment) bool {
	return a.Tag == b.Tag && slices.EqualFunc(a.Elements, b.Elements, slices.Equal[[]string])
}

func isZero(s api.Segment) bool { return s.Tag == "" && len(s.Elements) == 0 }

// valid has segments and their encodings.
func valid() []struct {
	segment api.Segment
	text    string
} {
	return []struct {
		segment api.Segment
		text    string
	}{
		{lot([]string{"1"}, []string{}, []string{"a:b", "c"}), "LOT+1++a?:b:c'"},
		{lot(), "LOT'"},
		{api.Segment{Tag: "A00"}, "A00'"},
		{api.Segment{Tag: "Z9Z", Elements: [][]string{{"x"}}}, "Z9Z+x'"},
		{lot([]string{"a"}), "LOT+a'"},
		{lot([]string{"a", "b"}), "LOT+a:b'"},
		{lot([]string{"a"}, []string{"b"}), "LOT+a+b'"},
		{lot(nil, []string{"b"}), "LOT++b'"},
		{lot(nil, nil, nil, []string{"b"}), "LOT++++b'"},
		{lot([]string{"", "b"}), "LOT+:b'"},
		{lot([]string{"", "", "b"}, nil, []string{"", "c"}), "LOT+::b++:c'"},
		{lot([]string{"a", "", "b"}), "LOT+a::b'"},
		{lot([]string{"+"}), "LOT+?+'"},
		{lot([]string{":"}), "LOT+?:'"},
		{lot([]string{"?"}), "LOT+??'"},
		{lot([]string{"'"}), "LOT+?''"},
		{lot([]string{"+:?'", "'?:+"}), "LOT+?+?:???':?'???:?+'"},
		{lot([]string{"??"}, []string{"?'"}), "LOT+????+???''"},
		{lot([]string{"LOT+1'"}), "LOT+LOT?+1?''"},
		{lot([]string{"\x00\n \xff\x80"}), "LOT+\x00\n \xff\x80'"},
		{lot([]string{"é€", "\u00a0"}), "LOT+é€:\u00a0'"},
	}
}

// P6.1

func TestTag(t *testing.T) {
	for _, x := range []struct {
		tag  string
		want api.Errno
	}{
		{"LOT", api.OK}, {"AAA", api.OK}, {"ZZZ", api.OK}, {"A00", api.OK}, {"Z99", api.OK}, {"B2C", api.OK}, {"B2B", api.OK}, {"BB2", api.OK},
		{"", api.ErrInvalid}, {"L", api.ErrInvalid}, {"LO", api.ErrInvalid}, {"LOTS", api.ErrInvalid}, {"LOTLOT", api.ErrInvalid},
		{"1OT", api.ErrInvalid}, {"0AB", api.ErrInvalid}, {"9ZZ", api.ErrInvalid}, {"123", api.ErrInvalid},
		{"lot", api.ErrInvalid}, {"Lot", api.ErrInvalid}, {"LoT", api.ErrInvalid}, {"LOt", api.ErrInvalid}, {"lOT", api.ErrInvalid},
		{"LO ", api.ErrInvalid}, {" LO", api.ErrInvalid}, {"L T", api.ErrInvalid}, {"LO'", api.ErrInvalid}, {"LO+", api.ErrInvalid}, {"LO?", api.ErrInvalid}, {"LO:", api.ErrInvalid},
		{"LO\x00", api.ErrInvalid}, {"\xff\xff\xff", api.ErrInvalid},
		// Three letters, or three bytes, but not both.
		{"ÄÖÜ", api.ErrInvalid}, {"LÖ", api.ErrInvalid}, {"€", api.ErrInvalid}, {"L²", api.ErrInvalid}, {"L\u0663", api.ErrInvalid},
	} {
		if err := segment.Validate(api.Segment{Tag: x.tag}); err != x.want {
			t.Errorf("Validate of the tag %q = %d, want %d", x.tag, err, x.want)
		}
	}
}

func TestTagBytes(t *testing.T) {
	const letters, digits = "ABCDEFGHIJKLMNOPQRSTUVWXYZ", "0123456789"
	for i := range 3 {
		allowed := letters + digits
		if i == 0 {
			allowed = letters
		}
		for c := range 256 {
			tag := []byte("LOT")
			tag[i] = byte(c)
			want := api.ErrInvalid
			if strings.IndexByte(allowed, byte(c)) >= 0 {
				want = api.OK
			}
			if err := segment.Validate(api.Segment{Tag: string(tag)}); err != want {
				t.Errorf("Validate of the tag %q = %d, want %d", tag, err, want)
			}
		}
	}
}

// limits has segments at their limits and above them; their ends are not empty.
func limits() []struct {
	segment api.Segment
	want    api.Errno
} {
	full := strings.Repeat("x", 1000)
	const over = api.ErrLimit
	return []struct {
		segment api.Segment
		want    api.Errno
	}{
		{lot(elements(100)...), api.OK},
		{lot(elements(101)...), over},
		{lot(elements(102)...), over},
		{lot(elements(5000)...), over},
		{lot(append(make([][]string, 99), []string{"1"})...), api.OK},
		{lot(append(make([][]string, 100), []string{"1"})...), over},
		{lot(texts(100, "1")), api.OK},
		{lot(texts(101, "1")), over},
		{lot(texts(102, "1")), over},
		{lot(texts(5000, "1")), over},
		{lot(append(texts(99, ""), "1")), api.OK},
		{lot(append(texts(100, ""), "1")), over},
		{lot(nil, texts(101, "1"), []string{"1"}), over},
		{lot([]string{"1"}, texts(101, "1")), over},
		{lot(append(elements(99), texts(100, "1"))...), api.OK},
		{lot(append(elements(99), texts(101, "1"))...), over},
		{lot([]string{full}), api.OK},
		{lot([]string{full + "x"}), over},
		{lot([]string{"", full}, []string{full, "", full}), api.OK},
		{lot([]string{"1", full + "x", "1"}, []string{"1"}), over},
		{lot([]string{"1"}, []string{"1", "1", full + "x"}), over},
		{lot([]string{strings.Repeat("x", 100000)}), over},
		// Bytes count, neither runes nor the bytes of the encoding.
		{lot([]string{strings.Repeat("é", 500)}), api.OK},
		{lot([]string{strings.Repeat("é", 500) + "x"}), over},
		{lot([]string{strings.Repeat("€", 334)}), over},
		{lot([]string{strings.Repeat("?", 1000)}), api.OK},
		{lot([]string{strings.Repeat("?", 1001)}), over},
		{lot([]string{strings.Repeat("'+:?", 250)}, []string{strings.Repeat("\xff", 1000)}), api.OK},
		{lot(append(elements(99), append(texts(99, full), full))...), api.OK},
		{lot(append(elements(99), append(texts(99, full), full+"x"))...), over},
	}
}

func TestLimits(t *testing.T) {
	for i, x := range limits() {
		if err := segment.Validate(x.segment); err != x.want {
			t.Errorf("%d: Validate = %d, want %d", i, err, x.want)
		}
	}
}

// emptyEnds has segments with an empty end, and such that are like them but have none.
func emptyEnds() []struct {
	segment api.Segment
	want    api.Errno
} {
	const empty = api.ErrInvalid
	return []struct {
		segment api.Segment
		want    api.Errno
	}{
		{lot(), api.OK},
		{api.Segment{Tag: "LOT", Elements: [][]string{}}, api.OK},
		{lot(nil), empty},
		{lot([]string{}), empty},
		{lot(nil, nil), empty},
		{lot([]string{"1"}, nil), empty},
		{lot([]string{"1"}, []string{}), empty},
		{lot([]string{"1"}, []string{}, []string{"1"}), api.OK},
		{lot(nil, []string{}, []string{"1"}), api.OK},
		{lot([]string{""}), empty},
		{lot([]string{"", ""}), empty},
		{lot([]string{"1", ""}), empty},
		{lot([]string{"", "1"}), api.OK},
		{lot([]string{"", "1", "", "1"}), api.OK},
		{lot([]string{"", "1", ""}), empty},
		{lot([]string{""}, []string{"1"}), empty},
		{lot([]string{"1"}, []string{""}), empty},
		{lot([]string{"1"}, []string{"1", ""}, []string{"1"}), empty},
		{lot([]string{"1", ""}, []string{"1"}, []string{"1"}), empty},
		{lot([]string{"1"}, []string{"1"}, []string{"", ""}, nil, []string{"1"}), empty},
		{lot([]string{" "}), api.OK},
		{lot([]string{"\x00"}), api.OK},
		{lot(append(make([][]string, 99), nil)...), empty},
		{lot(texts(100, "")), empty},
	}
}

func TestEmptyEnds(t *testing.T) {
	for i, x := range emptyEnds() {
		if err := segment.Validate(x.segment); err != x.want {
			t.Errorf("%d: Validate(%q) = %d, want %d", i, x.segment, err, x.want)
		}
	}
	for _, x := range valid() {
		if err := segment.Validate(x.segment); err != api.OK {
			t.Errorf("Validate(%q) = %d", x.segment, err)
		}
	}
}

// The errors come in the order of the tag, the limits of all elements, and the ends.
func TestValidateErrorOrder(t *testing.T) {
	long := strings.Repeat("x", 1001)
	for i, x := range []struct {
		segment api.Segment
		want    api.Errno
	}{
		{api.Segment{Tag: "lot", Elements: elements(101)}, api.ErrInvalid},
		{api.Segment{Tag: "", Elements: [][]string{texts(101, "1")}}, api.ErrInvalid},
		{api.Segment{Tag: "LOTS", Elements: [][]string{{long}}}, api.ErrInvalid},
		{api.Segment{Tag: long, Elements: [][]string{{"1"}}}, api.ErrInvalid},
		{lot(make([][]string, 101)...), api.ErrLimit},
		{lot(append(elements(100), nil)...), api.ErrLimit},
		{lot(texts(101, "")), api.ErrLimit},
		{lot([]string{""}, texts(101, "1")), api.ErrLimit},
		{lot([]string{"1", ""}, []string{long}), api.ErrLimit},
		{lot([]string{long, ""}), api.ErrLimit},
		{lot([]string{long}, nil), api.ErrLimit},
		{lot(texts(101, "1"), []string{""}), api.ErrLimit},
	} {
		if err := segment.Validate(x.segment); err != x.want {
			t.Errorf("%d: Validate = %d, want %d", i, err, x.want)
		}
	}
}

// P6.2

func TestEncode(t *testing.T) {
	var all []api.Segment
	text := ""
	for _, x := range valid() {
		if b, err := segment.Encode([]api.Segment{x.segment}); string(b) != x.text || err != api.OK {
			t.Errorf("Encode(%q) = %q, %d, want %q", x.segment, b, err, x.text)
		}
		all = append(all, x.segment)
		text += x.text
		if b, err := segment.Encode(all); string(b) != text || err != api.OK {
			t.Errorf("Encode(%q) = %q, %d, want %q", all, b, err, text)
		}
	}
	for _, l := range [][]api.Segment{nil, {}} {
		if b, err := segment.Encode(l); len(b) != 0 || err != api.OK {
			t.Errorf("Encode of no segments = %q, %d", b, err)
		}
	}
}

// Each byte stands for itself, but for the four that are preceded by a question mark.
func TestEncodeBytes(t *testing.T) {
	for c := range 256 {
		s := string([]byte{byte(c)})
		want := s
		if strings.Contains("+:?'", s) {
			want = "?" + s
		}
		for _, around := range []string{"", "a", "\xc3", "\xa9", "?"} {
			marked := strings.ReplaceAll(around, "?", "??")
			b, err := segment.Encode([]api.Segment{lot([]string{around + s + around, s})})
			if string(b) != "LOT+"+marked+want+marked+":"+want+"'" || err != api.OK {
				t.Errorf("Encode of the byte %d = %q, %d", c, b, err)
			}
		}
	}
}

func TestEncodeErrors(t *testing.T) {
	good, bad, long := lot([]string{"1"}), lot([]string{""}), lot(elements(101)...)
	for i, x := range []struct {
		l    []api.Segment
		want api.Errno
	}{
		{[]api.Segment{{}}, api.ErrInvalid},
		{[]api.Segment{{Tag: "lot"}}, api.ErrInvalid},
		{[]api.Segment{bad}, api.ErrInvalid},
		{[]api.Segment{long}, api.ErrLimit},
		{[]api.Segment{good, good, bad}, api.ErrInvalid},
		{[]api.Segment{good, long, good}, api.ErrLimit},
		// The first segment that is not valid counts, whatever its error.
		{[]api.Segment{good, bad, long}, api.ErrInvalid},
		{[]api.Segment{good, long, bad}, api.ErrLimit},
		{[]api.Segment{long, {Tag: "lot"}}, api.ErrLimit},
	} {
		if b, err := segment.Encode(x.l); len(b) != 0 || err != x.want {
			t.Errorf("%d: Encode = %q, %d, want %d", i, b, err, x.want)
		}
	}
	for i, x := range append(limits(), emptyEnds()...) {
		if b, err := segment.Encode([]api.Segment{good, x.segment}); err != x.want || (err == api.OK) != (len(b) > 0) {
			t.Errorf("%d: Encode = %q, %d, want %d", i, b, err, x.want)
		}
	}
}

// P6.3

func TestNext(t *testing.T) {
	for _, x := range valid() {
		for _, rest := range []string{"", "'", "LOT'", "+", "\x00", "?", "x?'", "LOT+1"} {
			s, n, err := segment.Next([]byte(x.text + rest))
			if !same(s, x.segment) || n != len(x.text) || err != api.OK {
				t.Errorf("Next(%q) = %q, %d, %d, want %q, %d", x.text+rest, s, n, err, x.segment, len(x.text))
			}
		}
	}
}

func TestNextErrors(t *testing.T) {
	for _, x := range []struct {
		text string
		want api.Errno
	}{
		{"", api.ErrTorn}, {"L", api.ErrTorn}, {"LOT", api.ErrTorn}, {"LOT+1", api.ErrTorn}, {"LOT+1+", api.ErrTorn},
		// An apostrophe of a pair ends no segment.
		{"LOT+?'", api.ErrTorn}, {"LOT+???'", api.ErrTorn}, {"LOT+?'?'?'", api.ErrTorn}, {"?'", api.ErrTorn}, {"LOT?'", api.ErrTorn}, {"L?'OT", api.ErrTorn},
		{"?", api.ErrTorn}, {"??", api.ErrTorn}, {"LOT+?", api.ErrTorn}, {"LOT+1??", api.ErrTorn},
		// ErrTorn comes first.
		{"lot", api.ErrTorn}, {"LOT+", api.ErrTorn}, {"LOT+a:", api.ErrTorn}, {"+++", api.ErrTorn}, {"LOT+?a?b", api.ErrTorn}, {"\xff\x00", api.ErrTorn}, {strings.Repeat("+", 200), api.ErrTorn},
		// Tags.
		{"'", api.ErrSyntax}, {"A'", api.ErrSyntax}, {"A'B", api.ErrSyntax}, {"LO'", api.ErrSyntax}, {"LOTS'", api.ErrSyntax}, {"1OT'", api.ErrSyntax}, {"lot'", api.ErrSyntax}, {" LOT'", api.ErrSyntax}, {"\nLOT'", api.ErrSyntax}, {"LOT:1'", api.ErrSyntax},
		{"+1'", api.ErrSyntax}, {"LO+1'", api.ErrSyntax}, {"LOTS+1'", api.ErrSyntax}, {"lot+1'", api.ErrSyntax}, {"''LOT'", api.ErrSyntax},
		{"?LOT'", api.ErrSyntax}, {"L?OT'", api.ErrSyntax}, {"LO?T'", api.ErrSyntax}, {"LOT?+1'", api.ErrSyntax}, {"LOT?'+1'", api.ErrSyntax}, {"??''", api.ErrSyntax},
		// Empty ends.
		{"LOT+'", api.ErrSyntax}, {"LOT++'", api.ErrSyntax}, {"LOT+1+'", api.ErrSyntax}, {"LOT+1++'", api.ErrSyntax}, {"LOT+:'", api.ErrSyntax}, {"LOT+1:'", api.ErrSyntax}, {"LOT+1::'", api.ErrSyntax}, {"LOT+:+1'", api.ErrSyntax}, {"LOT+1:+1'", api.ErrSyntax}, {"LOT+1+:'", api.ErrSyntax}, {"LOT++1:+2'", api.ErrSyntax},
		// Question marks before bytes that need none.
		{"LOT+?a'", api.ErrSyntax}, {"LOT+1?2'", api.ErrSyntax}, {"LOT+???a'", api.ErrSyntax}, {"LOT+? '", api.ErrSyntax}, {"LOT+?\x00'", api.ErrSyntax}, {"LOT+?\xff'", api.ErrSyntax}, {"LOT+a:?b'", api.ErrSyntax}, {"LOT+a?\n:b'", api.ErrSyntax},
		// What follows the first segment does not matter.
		{"A'LOT'", api.ErrSyntax}, {"LOT+'LOT'", api.ErrSyntax}, {"'?'", api.ErrSyntax},
	} {
		if s, n, err := segment.Next([]byte(x.text)); !isZero(s) || n != 0 || err != x.want {
			t.Errorf("Next(%q) = %q, %d, %d, want %d", x.text, s, n, err, x.want)
		}
	}
	if s, n, err := segment.Next(nil); !isZero(s) || n != 0 || err != api.ErrTorn {
		t.Errorf("Next(nil) = %q, %d, %d, want ErrTorn", s, n, err)
	}
}

// Each byte after a question mark, and each byte of a component.
func TestNextBytes(t *testing.T) {
	for c := range 256 {
		s := string([]byte{byte(c)})
		special := strings.Contains("+:?'", s)
		got, n, err := segment.Next([]byte("LOT+a?" + s + "b'"))
		if special && (!same(got, lot([]string{"a" + s + "b"})) || n != 9 || err != api.OK) {
			t.Errorf("Next with a question mark before the byte %d = %q, %d, %d", c, got, n, err)
		}
		if !special && (!isZero(got) || n != 0 || err != api.ErrSyntax) {
			t.Errorf("Next with a question mark before the byte %d = %q, %d, %d, want ErrSyntax", c, got, n, err)
		}
		if special {
			continue
		}
		got, n, err = segment.Next([]byte("LOT+a" + s + "b'"))
		if !same(got, lot([]string{"a" + s + "b"})) || n != 8 || err != api.OK {
			t.Errorf("Next with the byte %d = %q, %d, %d", c, got, n, err)
		}
	}
}

// encodingOf writes a segment by the words of P6.2, valid or not.
func encodingOf(s api.Segment) string {
	marked := strings.NewReplacer("+", "?+", ":", "?:", "?", "??", "'", "?'")
	text := s.Tag
	for _, components := range s.Elements {
		l := slices.Clone(components)
		for i := range l {
			l[i] = marked.Replace(l[i])
		}
		text += "+" + strings.Join(l, ":")
	}
	return text + "'"
}

// What is above a limit is not the encoding of a valid segment.
func TestNextAtLimits(t *testing.T) {
	for i, x := range limits() {
		text := encodingOf(x.segment)
		s, n, err := segment.Next([]byte(text + "LOT'"))
		if x.want == api.OK && (!same(s, x.segment) || n != len(text) || err != api.OK) {
			t.Errorf("%d: Next = %q, %d, %d, want %q", i, s, n, err, x.segment)
		}
		if x.want != api.OK && (!isZero(s) || n != 0 || err != api.ErrSyntax) {
			t.Errorf("%d: Next = %q, %d, %d, want ErrSyntax", i, s, n, err)
		}
	}
	// Many times the limits, and ended or not.
	for _, c := range []string{"+", ":", "1", "?", "'", "+1", ":1", "??", "?'", "+:", "+1:1"} {
		for _, end := range []string{"", "'", "1'", "+1'", "?", "?'"} {
			text := "LOT+1" + strings.Repeat(c, 1<<16) + end
			_, want := expectedNext(text)
			if s, _, err := segment.Next([]byte(text)); err != want || (want != api.OK) != isZero(s) {
				t.Errorf("Next of many %q and %q = %d, want %d", c, end, err, want)
			}
		}
	}
}

// firstText has the bytes up to the first apostrophe that is in no pair.
var firstText = regexp.MustCompile(`(?s)^(?:[^?']|\?.)*?'`)

const (
	oneByte = `(?:[^+:?']|\?[+:?'])`
	element = `(?:` + oneByte + `*:)*` + oneByte + `+`
)

// encoding is the form of a segment that is valid but for its limits: the last component of an element has a byte, and the last element a component.
var encoding = regexp.MustCompile(`(?s)^[A-Z][A-Z0-9]{2}(?:(?:\+(?:` + element + `)?)*\+` + element + `)?'$`)

// expectedNext returns the number of bytes of the first segment of text, or its error, for texts whose first segment is below the limits or far above them.
func expectedNext(text string) (int, api.Errno) {
	first := firstText.FindString(text)
	switch {
	case first == "":
		return 0, api.ErrTorn
	case len(first) > 1000 || !encoding.MatchString(first):
		return 0, api.ErrSyntax
	}
	return len(first), api.OK
}

// checkTexts calls check for all texts of up to length parts.
func checkTexts(parts []string, length int, text string, check func(text string)) {
	check(text)
	if length == 0 {
		return
	}
	for _, p := range parts {
		checkTexts(parts, length-1, text+p, check)
	}
}

func TestNextOfAllShortTexts(t *testing.T) {
	check := func(text string) {
		wantLength, want := expectedNext(text)
		s, n, err := segment.Next([]byte(text))
		if n != wantLength || err != want {
			t.Errorf("Next(%q) = %q, %d, %d, want %d, %d", text, s, n, err, wantLength, want)
		}
		if want != api.OK && !isZero(s) || want == api.OK && encodingOf(s) != text[:n] {
			t.Errorf("Next(%q) = %q, %d, %d", text, s, n, err)
		}
	}
	checkTexts([]string{"+", ":", "?", "'", "a", "\xff"}, 6, "LOT", check)
	checkTexts([]string{"+", ":", "?", "'", "A", "1"}, 6, "", check)
}

// P6.4

// expectedDecode applies P6.4 to texts as short as those of expectedNext; the error is that of the segment at the offset.
func expectedDecode(text string) (int, api.Errno) {
	offset := 0
	for offset < len(text) {
		n, err := expectedNext(text[offset:])
		if err != api.OK {
			return offset, err
		}
		offset += n
	}
	return offset, api.OK
}

func checkDecode(t *testing.T, text string, want []api.Segment, wantOffset int, wantErr api.Errno) {
	t.Helper()
	l, offset, err := segment.Decode([]byte(text))
	if !slices.EqualFunc(l, want, same) || offset != wantOffset || err != wantErr {
		t.Errorf("Decode(%q) = %q, %d, %d, want %q, %d, %d", text, l, offset, err, want, wantOffset, wantErr)
	}
}

func TestDecode(t *testing.T) {
	checkDecode(t, "", nil, 0, api.OK)
	if l, n, err := segment.Decode(nil); len(l) != 0 || n != 0 || err != api.OK {
		t.Errorf("Decode(nil) = %q, %d, %d", l, n, err)
	}
	var all []api.Segment
	text := ""
	for _, x := range valid() {
		checkDecode(t, x.text, []api.Segment{x.segment}, len(x.text), api.OK)
		all = append(all, x.segment)
		text += x.text
		checkDecode(t, text, all, len(text), api.OK)
	}
}

func TestDecodeErrors(t *testing.T) {
	for _, x := range []struct {
		text   string
		offset int
		want   api.Errno
	}{
		{"A'B", 0, api.ErrSyntax},
		{"'", 0, api.ErrSyntax},
		{"LOT", 0, api.ErrTorn},
		{"?", 0, api.ErrTorn},
		{"LOT'A'B", 4, api.ErrSyntax},
		{"LOT'LOT", 4, api.ErrTorn},
		{"LOT''", 4, api.ErrSyntax},
		{"LOT'\n", 4, api.ErrTorn},
		{"LOT'\nLOT'", 4, api.ErrSyntax},
		{"LOT+1'LOT+?'", 6, api.ErrTorn},
		{"LOT+1'LOT+?''LOT+", 13, api.ErrTorn},
		{"LOT+1'LOT+?''LOT+'", 13, api.ErrSyntax},
		// The first segment with an error counts.
		{"LOT+1'LOT+'LOT+1'", 6, api.ErrSyntax},
		{"LOT+1'LOT+'LOT", 6, api.ErrSyntax},
		{"lot'LOT", 0, api.ErrSyntax},
		{"LOT'lot'lot'lot", 4, api.ErrSyntax},
		{"lot", 0, api.ErrTorn},
		{"LOT'LOT'LOT'lot", 12, api.ErrTorn},
	} {
		checkDecode(t, x.text, nil, x.offset, x.want)
	}
	for _, x := range limits() {
		if x.want != api.OK {
			checkDecode(t, "LOT'A00+1'"+encodingOf(x.segment)+"LOT'", nil, 10, api.ErrSyntax)
		}
	}
}

// A text that ends too early is torn in its last segment.
func TestDecodeTorn(t *testing.T) {
	text, ends := "", map[int]int{0: 0}
	for i, x := range valid() {
		text += x.text
		ends[len(text)] = i + 1
	}
	start := 0
	for n := range len(text) {
		l, offset, err := segment.Decode([]byte(text[:n]))
		if count, whole := ends[n]; whole {
			start = n
			if len(l) != count || offset != n || err != api.OK {
				t.Errorf("Decode(%q) = %q, %d, %d", text[:n], l, offset, err)
			}
			continue
		}
		if len(l) != 0 || offset != start || err != api.ErrTorn {
			t.Errorf("Decode(%q) = %q, %d, %d, want %d, ErrTorn", text[:n], l, offset, err, start)
		}
	}
}

func TestDecodeOfAllShortTexts(t *testing.T) {
	check := func(text string) {
		wantOffset, want := expectedDecode(text)
		l, offset, err := segment.Decode([]byte(text))
		if offset != wantOffset || err != want || want != api.OK && len(l) != 0 {
			t.Errorf("Decode(%q) = %q, %d, %d, want %d, %d", text, l, offset, err, wantOffset, want)
		}
		if want != api.OK {
			return
		}
		if b, err := segment.Encode(l); string(b) != text || err != api.OK {
			t.Errorf("Decode(%q) = %q, whose encoding is %q, %d", text, l, b, err)
		}
	}
	checkTexts([]string{"LOT", "A0'", "+", ":", "?", "'", "+a"}, 6, "", check)
	checkTexts([]string{"LOT+1'", "LOT'", "LOT", "B12+a?", "'"}, 6, "", check)
}

// P6.5

// pieces are what the components of random segments consist of.
var pieces = []string{"+", ":", "?", "'", "??", "?'", "+'", "a", "LOT", "0", " ", "\n", "\x00", "\xff", "\xc3", "é", "€"}

func randomText(r *rand.Rand, most int) string {
	text := ""
	for range r.Intn(most + 1) {
		text += pieces[r.Intn(len(pieces))]
	}
	return text
}

func randomSegment(r *rand.Rand) api.Segment {
	const letters, all = "ABCDEFGHIJKLMNOPQRSTUVWXYZ", "ABCDEFGHIJKLMNOPQRSTUVWXYZ0123456789"
	s := api.Segment{Tag: string([]byte{letters[r.Intn(26)], all[r.Intn(36)], all[r.Intn(36)]})}
	for range r.Intn(6) {
		var components []string
		for range r.Intn(4) {
			components = append(components, randomText(r, 4))
		}
		if n := len(components); n > 0 {
			components[n-1] += "x"
		}
		s.Elements = append(s.Elements, components)
	}
	if n := len(s.Elements); n > 0 && len(s.Elements[n-1]) == 0 {
		s.Elements[n-1] = []string{"x"}
	}
	return s
}

func TestDecodeReturnsWhatWasEncoded(t *testing.T) {
	r := rand.New(rand.NewSource(6))
	for range 20000 {
		l := make([]api.Segment, r.Intn(5))
		want := ""
		for i := range l {
			l[i] = randomSegment(r)
			want += encodingOf(l[i])
		}
		b, err := segment.Encode(l)
		if string(b) != want || err != api.OK {
			t.Fatalf("Encode(%q) = %q, %d, want %q", l, b, err, want)
		}
		checkDecode(t, want, l, len(want), api.OK)
	}
}

// What was encoded, with a byte or two changed, put in or taken out.
func TestDecodeAcceptsEncodingsOnly(t *testing.T) {
	r := rand.New(rand.NewSource(65))
	for range 100000 {
		b, _ := segment.Encode([]api.Segment{randomSegment(r), randomSegment(r)})
		for range 1 + r.Intn(2) {
			i := r.Intn(len(b))
			b = slices.Replace(b, i, i+r.Intn(2), []byte(randomText(r, 1))...)
		}
		wantOffset, want := expectedDecode(string(b))
		l, offset, err := segment.Decode(b)
		if offset != wantOffset || err != want {
			t.Errorf("Decode(%q) = %q, %d, %d, want %d, %d", b, l, offset, err, wantOffset, want)
		}
		if err != api.OK {
			continue
		}
		if again, err := segment.Encode(l); !bytes.Equal(again, b) || err != api.OK {
			t.Errorf("Decode(%q) = %q, whose encoding is %q, %d", b, l, again, err)
		}
	}
}

func TestDecodeOfLargest(t *testing.T) {
	component := strings.Repeat("?", 1000-256) + everyByte()
	s := lot()
	for range 100 {
		s.Elements = append(s.Elements, texts(100, component))
	}
	l := []api.Segment{s, lot(), s}
	b, err := segment.Encode(l)
	if err != api.OK {
		t.Fatalf("Encode of the largest segment: %d", err)
	}
	got, n, err := segment.Decode(b)
	if !slices.EqualFunc(got, l, same) || n != len(b) || err != api.OK {
		t.Errorf("Decode of the largest segment = %d segments, %d, %d", len(got), n, err)
	}
}

func TestDecodeOfMany(t *testing.T) {
	l := make([]api.Segment, 200000)
	for i := range l {
		l[i] = lot([]string{"1"}, []string{"a:b", "c"})
	}
	b, err := segment.Encode(l)
	if len(b) != len(l)*13 || err != api.OK {
		t.Fatalf("Encode of many = %d bytes, %d", len(b), err)
	}
	got, n, err := segment.Decode(b)
	if !slices.EqualFunc(got, l, same) || n != len(b) || err != api.OK {
		t.Errorf("Decode of many = %d segments, %d, %d", len(got), n, err)
	}
	got, n, err = segment.Decode(append(b, "A'B"...))
	if len(got) != 0 || n != len(b) || err != api.ErrSyntax {
		t.Errorf("Decode of many and an error = %d segments, %d, %d, want %d, ErrSyntax", len(got), n, err, len(b))
	}
}

// R2 and R3: the arguments stay as they are, and a result shares no memory with them or with other results.
func TestArgumentsAreLeftAlone(t *testing.T) {
	spare := []string{"a:b", "c", "spare"}
	l := []api.Segment{lot([]string{"1"}, nil, spare[:2]), lot([]string{""})}[:1]
	want := []api.Segment{lot([]string{"1"}, nil, []string{"a:b", "c"})}
	for range 2 {
		segment.Validate(l[0])
		first, _ := segment.Encode(l)
		second, _ := segment.Encode(l)
		if !reflect.DeepEqual(l, want) || spare[2] != "spare" || l[:2][1].Elements[0][0] != "" {
			t.Fatalf("the segments became %q", l[:2])
		}
		clear(first[:cap(first)])
		if string(second) != "LOT+1++a?:b:c'" {
			t.Fatalf("Encode shares memory: %q", second)
		}
	}
}

func TestTextIsLeftAlone(t *testing.T) {
	const text = "LOT+1++a?:b:c'A00'LOT+?'+?+'"
	want := []api.Segment{lot([]string{"1"}, nil, []string{"a:b", "c"}), {Tag: "A00"}, lot([]string{"'"}, []string{"+"})}
	b := append([]byte(text), "spare"...)
	b = b[:len(text)]
	s, _, _ := segment.Next(b)
	l, _, _ := segment.Decode(b)
	again, _, _ := segment.Decode(b)
	if string(b[:len(text)+5]) != text+"spare" {
		t.Fatalf("the text became %q", b[:len(text)+5])
	}
	clear(b)
	for _, x := range l {
		scribble(x)
	}
	if !same(s, want[0]) || !slices.EqualFunc(again, want, same) {
		t.Errorf("the results share memory: %q, %q", s, again)
	}
	// The elements of one result share none either.
	for i := range again {
		for j, components := range again[i].Elements {
			components = components[:cap(components)]
			for k := len(again[i].Elements[j]); k < len(components); k++ {
				components[k] = "spare"
			}
			_ = append(components, "spare")
		}
	}
	if !slices.EqualFunc(again, want, same) {
		t.Errorf("the elements of a result share memory: %q", again)
	}
}

// scribble overwrites all memory of a segment.
func scribble(s api.Segment) {
	for _, components := range s.Elements[:cap(s.Elements)] {
		components = components[:cap(components)]
		for i := range components {
			components[i] = "overwritten"
		}
	}
	clear(s.Elements[:cap(s.Elements)])
}
