package goods_test

import (
	"math/rand"
	"regexp"
	"slices"
	"strconv"
	"strings"
	"testing"

	"customs/api"
	"customs/goods"
)

// P8.3

// described has valid descriptions and their texts.
func described() []struct {
	good api.Good
	text string
} {
	return []struct {
		good api.Good
		text string
	}{
		{api.Good{Words: list("chair office"), Materials: []api.Material{{Name: "steel", Share: 400000}, {Name: "wood", Share: 600000}}}, "chair+office m:steel:400000,wood:600000"},
		{plain(), "chair+office m:steel:400000,wood:600000 p:seat:300000,arm+left:300000,leg:400000 incomplete"},
		{api.Good{Words: list("a")}, "a"},
		{api.Good{Words: list("a"), Incomplete: true}, "a incomplete"},
		{api.Good{Words: list("incomplete m p"), Incomplete: true}, "incomplete+m+p incomplete"},
		{api.Good{Words: list("incomplete")}, "incomplete"},
		{api.Good{Words: letters(8)}, "a+b+c+d+e+f+g+h"},
		{api.Good{Words: list("abcdefghijkl zzzzzzzzzzzz")}, "abcdefghijkl+zzzzzzzzzzzz"},
		{api.Good{Words: list("a"), Materials: materials(1)}, "a m:a:1000000"},
		{api.Good{Words: list("a"), Materials: materials(2), Incomplete: true}, "a m:a:1,b:999999 incomplete"},
		{api.Good{Words: list("a"), Materials: materials(8)}, "a m:a:1,b:1,c:1,d:1,e:1,f:1,g:1,h:999993"},
		{api.Good{Words: list("a"), Parts: parts(1)}, "a p:a:1000000"},
		{api.Good{Words: list("a"), Parts: parts(6), Incomplete: true}, "a p:a:1,a:1,a:1,a:1,a:1,a:999995 incomplete"},
		{api.Good{Words: list("a"), Parts: []api.Component{part("y z", 10), part("b c d", 999890), part("a", 100)}}, "a p:y+z:10,b+c+d:999890,a:100"},
		{api.Good{Words: list("a"), Materials: materials(1), Parts: parts(1)}, "a m:a:1000000 p:a:1000000"},
		{api.Good{Words: list("a"), Materials: []api.Material{{Name: "m", Share: million}}, Parts: []api.Component{part("p", million)}}, "a m:m:1000000 p:p:1000000"},
		{api.Good{Words: list("a"), Parts: []api.Component{{Words: letters(8), Share: million}}}, "a p:a+b+c+d+e+f+g+h:1000000"},
	}
}

func TestTexts(t *testing.T) {
	for _, x := range described() {
		if got := goods.Format(x.good); got != x.text {
			t.Errorf("Format(%v) = %q, want %q", x.good, got, x.text)
		}
		if got, err := goods.Parse(x.text); !same(got, x.good) || err != api.OK {
			t.Errorf("Parse(%q) = %v, %d, want %v", x.text, got, err, x.good)
		}
	}
}

func TestInvalidHasNoText(t *testing.T) {
	for _, f := range faults() {
		if got := goods.Format(with(f.change)); got != "" {
			t.Errorf("Format with %s = %q, want no text", f.name, got)
		}
	}
	if got := goods.Format(api.Good{}); got != "" {
		t.Errorf("Format of no description = %q, want no text", got)
	}
}

// written writes any description like a valid one.
func written(g api.Good) string {
	s := strings.Join(g.Words, "+")
	for i, m := range g.Materials {
		s += map[bool]string{true: " m:", false: ","}[i == 0] + m.Name + ":" + strconv.Itoa(m.Share)
	}
	for i, p := range g.Parts {
		s += map[bool]string{true: " p:", false: ","}[i == 0] + strings.Join(p.Words, "+") + ":" + strconv.Itoa(p.Share)
	}
	return s + map[bool]string{true: " incomplete"}[g.Incomplete]
}

func TestTextOfInvalidIsNotParsed(t *testing.T) {
	for _, f := range faults() {
		text := written(with(f.change))
		if got, err := goods.Parse(text); !isZero(got) || err != api.ErrSyntax {
			t.Errorf("Parse(%q) = %v, %d, want ErrSyntax", text, got, err)
		}
	}
}

func TestSyntax(t *testing.T) {
	for _, text := range []string{
		"", " ", "+", ":", ",", "m:", "p:", " m:", " p:", " incomplete", "m:a:1000000", " m:a:1000000", " p:a:1000000", "0", "1",
		"a ", " a", "a+", "+a", "a++b", "a b", "a,b", "b+a", "a+a", "A", "a+B", "a\n", "a\x00", "\xff", "é", "a+b+c+d+e+f+g+h+i", "abcdefghijklm",
		"a m", "a m:", "a m: ", "a m:a", "a m:a:", "a m::1000000", "a m:1000000", "a m:a:1", "a m:a:999999", "a m:a:1000001", "a m:a:0", "a m:a:2000000",
		"a m:a:01000000", "a m:a:+1000000", "a m:a:-1000000", "a m:a: 1000000", "a m:a:1000000 ", "a m:a:1e6", "a m:a:1_000_000", "a m:a:1000000.0", "a m:a:0xf4240", "a m:a:1000000:", "a m:a:1000000:1", "a m:a:1000000,", "a m:,a:1000000",
		"a m:b:1,a:999999", "a m:a:1,a:999999", "a m:a:0,b:1000000", "a m:a:1000000,b:1000000", "a m:a:500000,b:500001", "a m:a:1; b:999999", "a m:a:1, b:999999", "a m:a+b:1000000", "a m:A:1000000", "a m:a:١",
		"a m:a:18446744073710551616", "a m:a:99999999999999999999999999", "a m:a:-18446744073708551616",
		"a m:a:1000000 m:a:1000000", "a m:a:1000000 m:b:1000000", "a p:a:1000000 p:a:1000000", "a p:a:1000000 m:a:1000000", "a m:a:1000000 p:", "a m: p:a:1000000", "a m:a:1000000p:a:1000000", "a m:a:1000000,p:a:1000000",
		"a p", "a p:", "a p:a", "a p::1000000", "a p:1000000", "a p:a:0", "a p:a:999999", "a p:b+a:1000000", "a p:a+a:1000000", "a p:a++b:1000000", "a p:a+:1000000", "a p:+a:1000000", "a p:a b:1000000", "a p:a:500000,a:500000,", "a p:a:0500000,a:500000",
		"a p:a:1,a:1,a:1,a:1,a:1,a:1,a:999994", "a m:a:1,b:1,c:1,d:1,e:1,f:1,g:1,h:1,i:999992",
		"a  m:a:1000000", "a m :a:1000000", "a M:a:1000000", "a P:a:1000000", "a m:a:1000000  p:a:1000000",
		"a incomplete ", "a  incomplete", "a Incomplete", "a complete", "a incomplet", "aincomplete incomplete x", "a incomplete incomplete", "a incomplete m:a:1000000", "a incomplete p:a:1000000", "a m:a:1000000 incomplete p:a:1000000", "a m:a:1000000 incomplet", "a m:a:1000000incomplete", "a p:incomplete",
	} {
		if got, err := goods.Parse(text); !isZero(got) || err != api.ErrSyntax {
			t.Errorf("Parse(%q) = %v, %d, want ErrSyntax", text, got, err)
		}
	}
}

// grammar is that of P8.3, but for the order of words and the sums.
func grammar() *regexp.Regexp {
	const word = `[a-z]{1,12}`
	const words = word + `(?:\+` + word + `){0,7}`
	const material = word + `:[1-9][0-9]{0,6}`
	const part = words + `:[1-9][0-9]{0,6}`
	return regexp.MustCompile(`\A(` + words + `)(?: m:(` + material + `(?:,` + material + `){0,7}))?(?: p:(` + part + `(?:,` + part + `){0,5}))?( incomplete)?\z`)
}

// expectedParse is Parse by the words of P8.2 and P8.3.
func expectedParse(form *regexp.Regexp, text string) (api.Good, api.Errno) {
	m := form.FindStringSubmatch(text)
	if m == nil {
		return api.Good{}, api.ErrSyntax
	}
	g := api.Good{Words: strings.Split(m[1], "+"), Incomplete: m[4] != ""}
	pair := regexp.MustCompile(`([a-z+]+):([0-9]+)`)
	for _, x := range pair.FindAllStringSubmatch(m[2], -1) {
		share, _ := strconv.Atoi(x[2])
		g.Materials = append(g.Materials, api.Material{Name: x[1], Share: share})
	}
	for _, x := range pair.FindAllStringSubmatch(m[3], -1) {
		share, _ := strconv.Atoi(x[2])
		g.Parts = append(g.Parts, api.Component{Words: strings.Split(x[1], "+"), Share: share})
	}
	if expectedError(g) != api.OK {
		return api.Good{}, api.ErrSyntax
	}
	return g, api.OK
}

func checkParse(t *testing.T, form *regexp.Regexp, text string) api.Errno {
	t.Helper()
	got, err := goods.Parse(text)
	if want, wantErr := expectedParse(form, text); !same(got, want) || err != wantErr {
		t.Fatalf("Parse(%q) = %v, %d, want %v, %d", text, got, err, want, wantErr)
	}
	if err == api.OK && goods.Format(got) != text {
		t.Fatalf("Parse(%q) has the text %q", text, goods.Format(got))
	}
	return err
}

// checkTexts calls check with all texts that consist of the text and at most so many parts.
func checkTexts(parts []string, most int, text string, check func(text string)) {
	check(text)
	if most > 0 {
		for _, p := range parts {
			checkTexts(parts, most-1, text+p, check)
		}
	}
}

func TestParseOfAllShortTexts(t *testing.T) {
	form := grammar()
	for _, x := range []struct {
		parts []string
		most  int
		least int
	}{
		{[]string{"a", "b", "+", ":", ",", " ", "m", "p", "0", "\xff"}, 4, 10},
		{[]string{"a", "b", "+", " m:", " p:", ":1000000", ":500000", ",", " incomplete"}, 6, 100},
		{[]string{"a", "+", " m:a:1000000", " p:a:1000000", " p:", " m:", " incomplete", ",a:1"}, 5, 10},
		{[]string{"a m:", "a:1", "b:1", "a:999999", "b:999999", "999999", "0", ",", "-"}, 6, 1},
	} {
		count := 0
		checkTexts(x.parts, x.most, "", func(text string) {
			if checkParse(t, form, text) == api.OK {
				count++
			}
		})
		if count < x.least {
			t.Errorf("only %d texts of %q are parsed", count, x.parts)
		}
	}
}

func TestParseReturnsWhatWasFormatted(t *testing.T) {
	form := grammar()
	r := rand.New(rand.NewSource(5))
	for range 20000 {
		g := randomGood(r)
		text := goods.Format(g)
		if want := written(g); text != want {
			t.Fatalf("Format(%v) = %q, want %q", g, text, want)
		}
		if got, err := goods.Parse(text); !same(got, g) || err != api.OK {
			t.Fatalf("Parse(%q) = %v, %d, want %v", text, got, err, g)
		}
		checkParse(t, form, text)
	}
}

func TestFormatOfRandomDescriptions(t *testing.T) {
	r := rand.New(rand.NewSource(6))
	for range 30000 {
		g := randomGood(r)
		for range r.Intn(4) {
			spoil(r, &g)
		}
		want := ""
		if expectedError(g) == api.OK {
			want = written(g)
		}
		if got := goods.Format(g); got != want {
			t.Fatalf("Format(%v) = %q, want %q", g, got, want)
		}
	}
}

// changed returns a text with a change: a piece removed, replaced, repeated or put in.
func changed(r *rand.Rand, s string) string {
	from := r.Intn(len(s) + 1)
	to := min(len(s), from+r.Intn(3))
	pieces := []string{"", "a", "z", "+", ":", ",", " ", "0", "1", " m:", " p:", " incomplete", "\xff", "A", s[from:to] + s[from:to], s}
	return s[:from] + pieces[r.Intn(len(pieces))] + s[to:]
}

func TestParseAcceptsTextsOnly(t *testing.T) {
	form := grammar()
	r := rand.New(rand.NewSource(7))
	accepted := 0
	for range 60000 {
		text := changed(r, goods.Format(randomGood(r)))
		if checkParse(t, form, text) == api.OK {
			accepted++
		}
	}
	if accepted < 1000 {
		t.Errorf("only %d changed texts are accepted", accepted)
	}
}

func TestParsePrefixes(t *testing.T) {
	form := grammar()
	for _, x := range described() {
		for i := range x.text {
			checkParse(t, form, x.text[:i])
			checkParse(t, form, x.text[i:])
		}
	}
}

func TestParseOfLongTexts(t *testing.T) {
	const n = 1000000
	for _, text := range []string{
		strings.Repeat("a", n), strings.Repeat("a+", n), strings.Repeat("+", n), strings.Repeat(" ", n), strings.Repeat(" incomplete", n),
		"a m:" + strings.Repeat("a:1,", n), "a p:" + strings.Repeat("a:1,", n), "a p:" + strings.Repeat("a+", n), "a" + strings.Repeat(" m:a:1000000", n), "a" + strings.Repeat(" p:a:1000000", n),
		"a m:a:" + strings.Repeat("1", n), "a p:a:" + strings.Repeat("0", n) + "1000000",
	} {
		if got, err := goods.Parse(text); !isZero(got) || err != api.ErrSyntax {
			t.Errorf("Parse of %d bytes %q.. = %d, want ErrSyntax", len(text), text[:12], err)
		}
	}
}

func TestParsedSharesNoMemory(t *testing.T) {
	text := goods.Format(plain())
	again, _ := goods.Parse(text)
	g, _ := goods.Parse(text)
	scribble(g.Words)
	for i, p := range g.Parts {
		if slices.Contains(p.Words, "scribbled") {
			t.Errorf("the words of part %d share memory with other words", i)
		}
		scribble(p.Words)
	}
	clear(g.Parts[:cap(g.Parts)])
	clear(g.Materials[:cap(g.Materials)])
	if !same(again, plain()) {
		t.Errorf("the description shares memory with that of another call: %v", again)
	}
}
