package message_test

import (
	"fmt"
	"hash/adler32"
	"math"
	"math/rand"
	"regexp"
	"slices"
	"strconv"
	"strings"
	"testing"

	"customs/api"
	"customs/message"
	"customs/segment"
)

// sameInterchange tells whether two interchanges are equal; lists that are nil and empty are.
func sameInterchange(a, b api.Interchange) bool {
	return a.Sender == b.Sender && a.Receiver == b.Receiver && a.Number == b.Number && slices.EqualFunc(a.Messages, b.Messages, same)
}

func isZeroInterchange(x api.Interchange) bool { return sameInterchange(x, api.Interchange{}) }

// packed writes an interchange by the words of P7.4, valid or not: with the number of messages that count says, and with the checksum of the body, which has their segments.
func packed(sender, receiver, number, count int, body string) string {
	return fmt.Sprintf("UNB+%d+%d+%d'%sUNZ+%d+%d'", sender, receiver, number, body, count, adler32.Checksum([]byte(body)))
}

// textOf writes an interchange by the words of P7.4, valid or not.
func textOf(x api.Interchange) string {
	var l []string
	for _, m := range x.Messages {
		l = append(l, encodingOf(m))
	}
	return packed(x.Sender, x.Receiver, x.Number, len(x.Messages), strings.Join(l, ""))
}

// P7.3

func TestChecksum(t *testing.T) {
	for _, x := range []struct {
		text string
		want int
	}{
		// The last but one is the record A of chapter 34.
		{"", 1}, {"\x00", 1<<16 + 1}, {"\x00\x00", 2<<16 + 1}, {"a", 98<<16 + 98}, {"\x00\x01\xff\xfe\x01A", 0x07440241}, {"Wikipedia", 0x11e60398},
	} {
		if n := message.Checksum([]byte(x.text)); n != x.want {
			t.Errorf("Checksum(%q) = %d, want %d", x.text, n, x.want)
		}
	}
	if n := message.Checksum(nil); n != 1 {
		t.Errorf("Checksum(nil) = %d, want 1", n)
	}
}

func TestChecksumOfLongTexts(t *testing.T) {
	check := func(b []byte) {
		if n, want := message.Checksum(b), int(adler32.Checksum(b)); n != want {
			t.Errorf("Checksum of %d bytes = %d, want %d", len(b), n, want)
		}
	}
	r := rand.New(rand.NewSource(73))
	for n := range 2000 {
		b := make([]byte, n)
		r.Read(b)
		check(b)
	}
	// The sums reach the modulus behind 256 and 361 bytes; 5552 bytes are the most for which 32 bits hold them without it.
	for _, c := range []byte{0, 1, 127, 128, 254, 255} {
		for _, n := range []int{255, 256, 257, 258, 361, 362, 363, 5551, 5552, 5553, 65519, 65520, 65521, 65522, 65536, 1 << 20, 1<<24 + 3} {
			check(slices.Repeat([]byte{c}, n))
		}
	}
}

// P7.4

// interchanges has interchanges and their encodings; the checksums were computed elsewhere.
func interchanges() []struct {
	x    api.Interchange
	text string
} {
	const one, two = "MSG+1+2+3+4+5'LOT+6+0'END+3+4'", "MSG+60+0+0+0+0'END+2+0'"
	first, second := examples()[0].m, api.Message{Kind: 60}
	return []struct {
		x    api.Interchange
		text string
	}{
		{api.Interchange{}, "UNB+0+0+0'UNZ+0+1'"},
		{api.Interchange{Sender: 1, Receiver: 2, Number: 3, Messages: []api.Message{}}, "UNB+1+2+3'UNZ+0+1'"},
		{api.Interchange{Sender: 999, Receiver: 999, Number: 1000000000}, "UNB+999+999+1000000000'UNZ+0+1'"},
		{api.Interchange{Sender: 1, Messages: []api.Message{first}}, "UNB+1+0+0'" + one + "UNZ+1+1718224498'"},
		{api.Interchange{Receiver: 2, Messages: []api.Message{second}}, "UNB+0+2+0'" + two + "UNZ+1+1002767554'"},
		{api.Interchange{Number: 3, Messages: []api.Message{first, second}}, "UNB+0+0+3'" + one + two + "UNZ+2+912591667'"},
		{api.Interchange{Number: 3, Messages: []api.Message{second, first, second}}, "UNB+0+0+3'" + two + one + two + "UNZ+3+1848512500'"},
		{api.Interchange{Number: 3, Messages: []api.Message{second, second}}, "UNB+0+0+3'" + two + two + "UNZ+2+3839953283'"},
	}
}

func TestPack(t *testing.T) {
	for _, x := range interchanges() {
		if want := textOf(x.x); want != x.text {
			t.Errorf("the words of P7.4 make %q of %v, want %q", want, x.x, x.text)
		}
		if b, err := message.Pack(x.x); string(b) != x.text || err != api.OK {
			t.Errorf("Pack(%v) = %q, %d, want %q", x.x, b, err, x.text)
		}
		if got, err := message.Unpack([]byte(x.text)); !sameInterchange(got, x.x) || err != api.OK {
			t.Errorf("Unpack(%q) = %v, %d, want %v", x.text, got, err, x.x)
		}
	}
}

// messages returns n messages.
func messages(n int) []api.Message { return slices.Repeat([]api.Message{{Kind: 1}}, n) }

func TestPackErrors(t *testing.T) {
	bad := func(m api.Message) []api.Message { return append(messages(3), m) }
	invalid, long := api.Message{Kind: 1, Code: "1"}, api.Message{Kind: 1, List: numbers(65, 1)}
	for i, x := range []struct {
		x    api.Interchange
		want api.Errno
	}{
		{api.Interchange{Sender: -1}, api.ErrRange}, {api.Interchange{Sender: 1000}, api.ErrRange}, {api.Interchange{Sender: math.MinInt}, api.ErrRange}, {api.Interchange{Sender: math.MaxInt}, api.ErrRange},
		{api.Interchange{Receiver: -1}, api.ErrRange}, {api.Interchange{Receiver: 1000}, api.ErrRange}, {api.Interchange{Receiver: math.MinInt}, api.ErrRange}, {api.Interchange{Receiver: math.MaxInt}, api.ErrRange},
		{api.Interchange{Number: -1}, api.ErrRange}, {api.Interchange{Number: 1000000001}, api.ErrRange}, {api.Interchange{Number: math.MinInt}, api.ErrRange}, {api.Interchange{Number: math.MaxInt}, api.ErrRange},
		{api.Interchange{Messages: messages(999)}, api.OK}, {api.Interchange{Messages: messages(1000)}, api.OK}, {api.Interchange{Messages: messages(1001)}, api.ErrLimit}, {api.Interchange{Messages: messages(20000)}, api.ErrLimit},
		{api.Interchange{Messages: bad(api.Message{})}, api.ErrRange}, {api.Interchange{Messages: bad(invalid)}, api.ErrInvalid}, {api.Interchange{Messages: bad(long)}, api.ErrLimit},
		// The first error counts.
		{api.Interchange{Sender: -1, Messages: messages(1001)}, api.ErrRange}, {api.Interchange{Number: -1, Messages: bad(invalid)}, api.ErrRange}, {api.Interchange{Receiver: 1000, Messages: bad(long)}, api.ErrRange},
		{api.Interchange{Messages: append(bad(invalid), messages(1000)...)}, api.ErrLimit}, {api.Interchange{Messages: append(bad(api.Message{}), messages(1000)...)}, api.ErrLimit},
		{api.Interchange{Messages: append(bad(invalid), long, api.Message{})}, api.ErrInvalid}, {api.Interchange{Messages: append(bad(long), invalid)}, api.ErrLimit}, {api.Interchange{Messages: append(bad(api.Message{}), invalid, api.Message{Kind: 1})}, api.ErrRange},
	} {
		b, err := message.Pack(x.x)
		if err != x.want || (err == api.OK) != (len(b) > 0) {
			t.Errorf("%d: Pack = %q, %d, want %d", i, b, err, x.want)
		}
		// What Pack does not make is not unpacked, even if it is written as P7.4 says.
		want := x.want
		if want != api.OK {
			want = api.ErrSyntax
		}
		got, err := message.Unpack([]byte(textOf(x.x)))
		if err != want || err == api.OK && !sameInterchange(got, x.x) || err != api.OK && !isZeroInterchange(got) {
			t.Errorf("%d: Unpack = %v, %d, want %d", i, got, err, want)
		}
	}
}

// Each message of an interchange is checked as Validate does.
func TestPackOfInvalidMessages(t *testing.T) {
	for i, x := range append(disordered(), lengths()...) {
		for _, l := range [][]api.Message{{x.m}, {x.m, plain()}, {plain(), x.m, {}}} {
			want := x.want
			if want == api.OK && len(l) == 3 {
				want = api.ErrRange
			}
			if b, err := message.Pack(api.Interchange{Messages: l}); err != want || (err == api.OK) != (len(b) > 0) {
				t.Errorf("%d: Pack = %q, %d, want %d", i, b, err, want)
			}
		}
	}
}

// P7.5

func TestUnpackErrors(t *testing.T) {
	const m = "MSG+1+2+3+4+5'END+2+4'"
	good := packed(1, 2, 3, 1, m)
	cut := func(old, new string) string {
		if !strings.Contains(good, old) {
			t.Fatalf("%q has no %q", good, old)
		}
		return strings.Replace(good, old, new, 1)
	}
	const sum = "UNZ+1+930481311'"
	for _, x := range []struct {
		text string
		want api.Errno
	}{
		// The segments come first.
		{good + "X", api.ErrTorn}, {good[:len(good)-1], api.ErrTorn}, {cut("UNB", "UNX") + "X", api.ErrTorn}, {cut("UNZ+1", "UNZ+2") + "?", api.ErrTorn}, {good + "x'", api.ErrSyntax}, {"unb'" + good + "X", api.ErrSyntax}, {cut("UNZ+1", "UNZ+1+"), api.ErrSyntax},
		// Without one of the segments, or with more of them.
		{"", api.ErrSyntax}, {"UNB+1+2+3'", api.ErrSyntax}, {"UNZ+0+1'", api.ErrSyntax}, {"UNZ+0+1'UNB+1+2+3'", api.ErrSyntax}, {m, api.ErrSyntax}, {cut("UNB+1+2+3'", ""), api.ErrSyntax}, {cut(sum, ""), api.ErrSyntax}, {good + good, api.ErrSyntax}, {good + sum, api.ErrSyntax}, {good + "UNZ+0+1'", api.ErrSyntax}, {good + "ABC'", api.ErrSyntax}, {"UNB+1+2+3'" + good, api.ErrSyntax}, {"ABC'" + good, api.ErrSyntax},
		{packed(1, 2, 3, 0, "ABC'"), api.ErrSyntax}, {packed(1, 2, 3, 1, "ABC'"+m), api.ErrSyntax}, {packed(1, 2, 3, 1, m+"ABC'"), api.ErrSyntax}, {packed(1, 2, 3, 1, "UNB+1+2+3'"+m), api.ErrSyntax}, {packed(1, 2, 3, 1, m+sum), api.ErrSyntax}, {packed(1, 2, 3, 1, good), api.ErrSyntax}, {packed(1, 2, 3, 0, "UNZ+0+1'"), api.ErrSyntax},
		// Other tags and elements of the first segment.
		{cut("UNB", "UNZ"), api.ErrSyntax}, {cut("UNB", "UNC"), api.ErrSyntax}, {cut("UNB+1+2+3", "UNB"), api.ErrSyntax}, {cut("UNB+1+2+3", "UNB+1+2"), api.ErrSyntax}, {cut("UNB+1+2+3", "UNB+1+2+3+4"), api.ErrSyntax}, {cut("UNB+1+2+3", "UNB++2+3"), api.ErrSyntax}, {cut("UNB+1+2+3", "UNB+1++3"), api.ErrSyntax}, {cut("UNB+1+2+3", "UNB+01+2+3"), api.ErrSyntax}, {cut("UNB+1+2+3", "UNB+1+-2+3"), api.ErrSyntax}, {cut("UNB+1+2+3", "UNB+1+2+-0"), api.ErrSyntax}, {cut("UNB+1+2+3", "UNB+1+2+x"), api.ErrSyntax}, {cut("UNB+1+2+3", "UNB+1+2:2+3"), api.ErrSyntax}, {cut("UNB+1+2+3", "UNB+?+1+2+3"), api.ErrSyntax}, {cut("UNB+1+2+3", "UNB+1+2+18446744073709551619"), api.ErrSyntax}, {cut("UNB+1", "UNB+1000"), api.ErrSyntax}, {cut("+2+3'", "+1000+3'"), api.ErrSyntax}, {cut("+2+3'", "+2+1000000001'"), api.ErrSyntax},
		// Other tags and numbers of elements of the last segment.
		{cut(sum, "UNB+1+930481311'"), api.ErrSyntax}, {cut(sum, "UNX+1+930481311'"), api.ErrSyntax}, {cut(sum, "UNZ'"), api.ErrSyntax}, {cut(sum, "UNZ+1'"), api.ErrSyntax}, {cut(sum, "UNZ+1+930481311+0'"), api.ErrSyntax}, {cut(sum, "UNZ+1++930481311'"), api.ErrSyntax}, {cut(sum, "UNZ+++x'"), api.ErrSyntax},
		// Messages that are wrong.
		{packed(1, 2, 3, 1, "MSG+1+2+3+4+5'"), api.ErrSyntax}, {packed(1, 2, 3, 1, "END+1+4'"), api.ErrSyntax}, {packed(1, 2, 3, 1, m+"END+2+4'"), api.ErrSyntax}, {packed(1, 2, 3, 1, "MSG+0+2+3+4+5'END+2+4'"), api.ErrSyntax}, {packed(1, 2, 3, 1, "MSG+1+2+3+4+5'END+2+5'"), api.ErrSyntax}, {packed(1, 2, 3, 1, "MSG+1+2+3+4+5'LOT+0+0'END+3+4'"), api.ErrSyntax}, {packed(1, 2, 3, 2, m+"MSG+1+2+3+4+5'END+2+4+4'"), api.ErrSyntax}, {packed(1, 2, 3, 2, m+"MSG+1+2+3+4+5'END+2'"), api.ErrSyntax}, {packed(1, 2, 3, 2, m+"MSG+1+2+3+4+5'"), api.ErrSyntax}, {packed(1, 2, 3, 2, "MSG+1+2+3+4+5'MSG+1+2+3+4+5'END+2+4'END+2+4'"), api.ErrSyntax}, {packed(1, 2, 3, 1, "MSG+1+2+3+4+5'TXT'END+3+4'"), api.ErrSyntax},
		// The counts and the checksum.
		{cut("END+2", "END+3"), api.ErrChecksum}, {cut("END+2", "END+"), api.ErrChecksum}, {cut("END+2", "END+02"), api.ErrChecksum}, {cut("END+2", "END+x:y"), api.ErrChecksum}, {cut("END+2", "END+?'"), api.ErrChecksum},
		{packed(1, 2, 3, 1, "MSG+1+2+3+4+5'END+3+4'"), api.ErrChecksum}, {packed(1, 2, 3, 1, "MSG+1+2+3+4+5'END++4'"), api.ErrChecksum}, {packed(1, 2, 3, 2, m+"MSG+1+2+3+4+5'END+9+4'"), api.ErrChecksum}, {packed(1, 2, 3, 2, "MSG+1+2+3+4+5'END+9+4'"+m), api.ErrChecksum},
		{cut(sum, "UNZ+0+930481311'"), api.ErrChecksum}, {cut(sum, "UNZ+2+930481311'"), api.ErrChecksum}, {cut(sum, "UNZ++930481311'"), api.ErrChecksum}, {cut(sum, "UNZ+01+930481311'"), api.ErrChecksum}, {cut(sum, "UNZ+1:1+930481311'"), api.ErrChecksum}, {cut(sum, "UNZ+?++930481311'"), api.ErrChecksum}, {cut(sum, "UNZ+1+930481312'"), api.ErrChecksum}, {cut(sum, "UNZ+1+0930481311'"), api.ErrChecksum}, {cut(sum, "UNZ+1+1'"), api.ErrChecksum}, {cut(sum, "UNZ+1+x:y'"), api.ErrChecksum}, {cut(sum, "UNZ++x'"), api.ErrChecksum}, {cut(sum, "UNZ+1+5225448607'"), api.ErrChecksum}, {cut(sum, "UNZ+1+-3364485985'"), api.ErrChecksum},
		{"UNB+1+2+3'UNZ+0+0'", api.ErrChecksum}, {"UNB+1+2+3'UNZ+1+1'", api.ErrChecksum}, {"UNB+1+2+3'UNZ++1'", api.ErrChecksum},
		{cut("MSG+1+2", "MSG+1+9"), api.ErrChecksum}, {cut("+5'", "+6'"), api.ErrChecksum}, {cut(m, ""), api.ErrChecksum}, {cut(m, m+m), api.ErrChecksum}, {cut(m, "MSG+1+2+3+4+5'LOT+1+1'END+2+4'"), api.ErrChecksum},
		// A count, and more.
		{strings.Replace(cut("END+2", "END+3"), "UNB+1", "UNB+x", 1), api.ErrSyntax}, {strings.Replace(cut("END+2", "END+3"), sum, "UNZ+1'", 1), api.ErrSyntax}, {cut("END+2+4", "END+3+5"), api.ErrSyntax}, {strings.Replace(cut(sum, "UNZ+x+y'"), "MSG+1", "MSG+0", 1), api.ErrSyntax}, {strings.Replace(cut(sum, "UNZ+x+y'"), "UNB+1", "UNB+1000", 1), api.ErrSyntax},
		{packed(1, 2, 3, 0, strings.Repeat(m, 1001)), api.ErrSyntax}, {packed(1, 2, 3, 0, strings.Repeat(m, 1000)), api.ErrChecksum}, {packed(1, 2, 3, 1001, strings.Repeat(m, 1001)), api.ErrSyntax}, {packed(1, 2, 3, 1000, strings.Repeat(m, 1001)), api.ErrSyntax},
		{packed(1, 2, 3, 1, strings.Repeat("MSG+1+2+3+4+5'", 100000)), api.ErrSyntax}, {packed(1, 2, 3, 1, strings.Repeat("END+1+2'", 100000)), api.ErrSyntax}, {strings.Repeat(good, 10000), api.ErrSyntax},
	} {
		if got, err := message.Unpack([]byte(x.text)); !isZeroInterchange(got) || err != x.want {
			t.Errorf("Unpack(%.200q) = %v, %d, want %d", x.text, got, err, x.want)
		}
	}
	if x, err := message.Unpack([]byte(good)); len(x.Messages) != 1 || err != api.OK {
		t.Errorf("Unpack(%q) = %v, %d", good, x, err)
	}
	if x, err := message.Unpack(nil); !isZeroInterchange(x) || err != api.ErrSyntax {
		t.Errorf("Unpack(nil) = %v, %d, want ErrSyntax", x, err)
	}
}

// whole is the form of an interchange whose segments are valid, whatever its messages and the elements of UNZ are.
var whole = regexp.MustCompile(`(?s)^UNB\+` + digits + `\+` + digits + `\+` + digits + `'(.*?)UNZ\+` + element + `\+` + element + `'$`)

// oneMessage has the segments up to the first END.
var oneMessage = regexp.MustCompile(`(?s)^(?:` + oneSegment + `)*?END(?:[^?']|\?.)*'`)

const oneSegment = `(?:[^?']|\?.)*'`

// expectedUnpack returns the interchange for which Pack returns text, or the error, by the words of P7.5.
func expectedUnpack(text string) (api.Interchange, api.Errno) {
	if _, _, err := segment.Decode([]byte(text)); err != api.OK {
		return api.Interchange{}, err
	}
	f := whole.FindStringSubmatch(text)
	if f == nil {
		return api.Interchange{}, api.ErrSyntax
	}
	n := func(i int) int {
		n, _ := strconv.Atoi(f[i])
		return n
	}
	x := api.Interchange{Sender: n(1), Receiver: n(2), Number: n(3)}
	result := api.OK
	for body := f[4]; body != ""; {
		text := oneMessage.FindString(body)
		m, err := expectedMessage(text)
		if err == api.ErrSyntax {
			return api.Interchange{}, err
		}
		result = max(result, err)
		x.Messages = append(x.Messages, m)
		body = body[len(text):]
	}
	if min(n(1), n(2), n(3)) < 0 || max(n(1), n(2)) > 999 || n(3) > 1000000000 || len(x.Messages) > 1000 {
		return api.Interchange{}, api.ErrSyntax
	}
	if result != api.OK || f[5] != strconv.Itoa(len(x.Messages)) || f[6] != strconv.Itoa(int(adler32.Checksum([]byte(f[4])))) {
		return api.Interchange{}, api.ErrChecksum
	}
	return x, api.OK
}

// checkUnpack holds Unpack against the words of P7.5.
func checkUnpack(t *testing.T, text string) api.Errno {
	t.Helper()
	want, wantErr := expectedUnpack(text)
	x, err := message.Unpack([]byte(text))
	if !sameInterchange(x, want) || err != wantErr {
		t.Errorf("Unpack(%q) = %v, %d, want %v, %d", text, x, err, want, wantErr)
	}
	if err == api.OK {
		if b, err := message.Pack(x); string(b) != text || err != api.OK {
			t.Errorf("Unpack(%q) = %v, whose encoding is %q, %d", text, x, b, err)
		}
	}
	return wantErr
}

func TestUnpackOfAllShortTexts(t *testing.T) {
	const m = "MSG+1+0+0+4+0'"
	for _, x := range []struct {
		start  string
		parts  []string
		length int
	}{
		{"UNB+1+2+3'", []string{m, "LOT+1+0'", "END+2+4'", "END+3+4'", "END+4'", "UNZ+0+1'", "UNZ+1+922354837'", "UNZ+x+y'", "UNB+1+2+3'"}, 4},
		{"UNB", []string{"+1", "+0", "+", "-", "1", "'UNZ+0+1'", "'"}, 5},
		{"UNB+1+2+3'UNZ", []string{"+", "0", "1", ":", "?", "'"}, 6},
	} {
		found := map[api.Errno]int{}
		checkTexts(x.parts, x.length, x.start, func(text string) { found[checkUnpack(t, text)]++ })
		if found[api.OK] == 0 || found[api.ErrSyntax] == 0 || found[api.ErrChecksum] == 0 && x.start != "UNB" {
			t.Errorf("the texts with %q have the results %v", x.start, found)
		}
	}
}

// P7.6

func TestUnpackReturnsWhatWasPacked(t *testing.T) {
	r := rand.New(rand.NewSource(74))
	for range 2000 {
		x := api.Interchange{Sender: within(r, 0, 999), Receiver: within(r, 0, 999), Number: within(r, 0, 1000000000), Messages: make([]api.Message, r.Intn(5))}
		for i := range x.Messages {
			x.Messages[i] = randomMessage(r)
		}
		want := textOf(x)
		b, err := message.Pack(x)
		if string(b) != want || err != api.OK {
			t.Fatalf("Pack(%v) = %q, %d, want %q", x, b, err, want)
		}
		if got, err := message.Unpack(b); !sameInterchange(got, x) || err != api.OK {
			t.Fatalf("Unpack(%q) = %v, %d, want %v", b, got, err, x)
		}
	}
}

// smallInterchange returns an interchange of short messages.
func smallInterchange(r *rand.Rand) api.Interchange {
	x := api.Interchange{Sender: r.Intn(12), Receiver: r.Intn(12), Number: r.Intn(12), Messages: make([]api.Message, r.Intn(3))}
	for i := range x.Messages {
		x.Messages[i] = smallMessage(r)
	}
	return x
}

func TestUnpackAcceptsEncodingsOnly(t *testing.T) {
	r := rand.New(rand.NewSource(75))
	found := map[api.Errno]int{}
	for range 40000 {
		b, _ := message.Pack(smallInterchange(r))
		found[checkUnpack(t, string(changed(r, b)))]++
	}
	// Changes that do not change the checksum: only the counts, or nothing, may be wrong.
	for range 40000 {
		x := smallInterchange(r)
		body := ""
		for _, m := range x.Messages {
			body += encodingOf(m)
		}
		body = string(changed(r, []byte(body)))
		found[checkUnpack(t, packed(x.Sender, x.Receiver, x.Number, strings.Count(body, "END"), body))]++
	}
	for _, e := range []api.Errno{api.OK, api.ErrTorn, api.ErrSyntax, api.ErrChecksum} {
		if found[e] < 500 {
			t.Errorf("changed interchanges have the results %v", found)
		}
	}
}

// Each single byte, replaced by each other one.
func TestReplacedByte(t *testing.T) {
	r := rand.New(rand.NewSource(72))
	l := []api.Interchange{{}, {Sender: 11, Receiver: 100, Number: 1000000000}, {Sender: 1, Receiver: 2, Number: 3, Messages: []api.Message{plain(), {Kind: 11, Text: "UNZ+1+1'"}}}}
	for range 5 {
		l = append(l, smallInterchange(r))
	}
	for _, x := range l {
		text, _ := message.Pack(x)
		for i := range text {
			for c := range 256 {
				b := slices.Clone(text)
				b[i] = byte(c)
				got, err := message.Unpack(b)
				if b[i] == text[i] && (!sameInterchange(got, x) || err != api.OK) {
					t.Errorf("Unpack(%q) = %v, %d, want %v", b, got, err, x)
				}
				if b[i] != text[i] && err == api.OK && got.Sender == x.Sender && got.Receiver == x.Receiver && got.Number == x.Number {
					t.Errorf("Unpack(%q) = %v, like %q", b, got, text)
				}
				if err != api.OK && !isZeroInterchange(got) {
					t.Errorf("Unpack(%q) = %v, %d", b, got, err)
				}
			}
		}
	}
}

// A text that ends too early is torn, or has no UNZ.
func TestUnpackTorn(t *testing.T) {
	text, _ := message.Pack(api.Interchange{Sender: 1, Messages: []api.Message{plain(), {Kind: 11}}})
	for n := range len(text) {
		want := api.ErrTorn
		if slices.Contains(ends(text), n) && !strings.HasSuffix(string(text[:n]), "?'") {
			want = api.ErrSyntax
		}
		if x, err := message.Unpack(text[:n]); !isZeroInterchange(x) || err != want {
			t.Errorf("Unpack(%q) = %v, %d, want %d", text[:n], x, err, want)
		}
	}
}

func TestLargestInterchange(t *testing.T) {
	const most = 1000000000000
	m := api.Message{Kind: 60, From: 999, To: 999, Number: 1000000000, Day: 36524, Lot: 1000000000, Other: 1000000000, Code: "99999999", Country: "ZZ", Quantity: 1000000000, Amount: -most, List: numbers(64, -most), Text: strings.Repeat("?", 200)}
	x := api.Interchange{Sender: 999, Receiver: 999, Number: 1000000000, Messages: slices.Repeat([]api.Message{m}, 1000)}
	b, err := message.Pack(x)
	if string(b) != textOf(x) || err != api.OK {
		t.Fatalf("Pack of the largest interchange = %d bytes, %d", len(b), err)
	}
	if got, err := message.Unpack(b); !sameInterchange(got, x) || err != api.OK {
		t.Errorf("Unpack of the largest interchange = %d messages, %d", len(got.Messages), err)
	}
}

// R2 and R3: the arguments stay as they are, and a result shares no memory with them or with other results.
func TestInterchangeIsLeftAlone(t *testing.T) {
	x := api.Interchange{Sender: 1, Receiver: 2, Number: 3, Messages: []api.Message{plain(), plain(), plain()}[:2]}
	want := api.Interchange{Sender: 1, Receiver: 2, Number: 3, Messages: []api.Message{plain(), plain()}}
	text := textOf(x)
	first, _ := message.Pack(x)
	second, _ := message.Pack(x)
	if !sameInterchange(x, want) || !same(x.Messages[:3][2], plain()) {
		t.Fatalf("the interchange became %v", x)
	}
	clear(first[:cap(first)])
	if string(second) != text {
		t.Fatalf("the results share memory: %q", second)
	}
	b := append([]byte(text), "spare"...)[:len(text)]
	got, _ := message.Unpack(b)
	again, _ := message.Unpack(b)
	if string(b[:len(text)+5]) != text+"spare" {
		t.Fatalf("the text became %q", b[:len(text)+5])
	}
	clear(b)
	for i := range got.Messages {
		clear(got.Messages[i].List[:cap(got.Messages[i].List)])
	}
	clear(got.Messages[:cap(got.Messages)])
	for i := range again.Messages {
		_ = append(again.Messages[i].List, 77)
	}
	if !sameInterchange(again, want) {
		t.Errorf("the results share memory: %v", again)
	}
}
