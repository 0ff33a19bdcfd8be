package goods_test

import (
	"math"
	"math/rand"
	"reflect"
	"slices"
	"strconv"
	"strings"
	"testing"

	"customs/api"
	"customs/goods"
)

const million = 1000000

// same tells whether two descriptions are equal; lists that are nil and empty are.
func same(a, b api.Good) bool {
	return slices.Equal(a.Words, b.Words) && slices.Equal(a.Materials, b.Materials) && sameComponents(a.Parts, b.Parts) && a.Incomplete == b.Incomplete
}

func sameComponents(a, b []api.Component) bool {
	return slices.EqualFunc(a, b, func(a, b api.Component) bool {
		return slices.Equal(a.Words, b.Words) && a.Share == b.Share
	})
}

func isZero(g api.Good) bool { return same(g, api.Good{}) }

// list returns the words of a text, which are separated by spaces.
func list(text string) []string { return strings.Fields(text) }

// part returns a part with the words of a text.
func part(text string, share int) api.Component {
	return api.Component{Words: list(text), Share: share}
}

// plain returns a valid description that has everything.
func plain() api.Good {
	return api.Good{
		Words:      list("chair office"),
		Materials:  []api.Material{{Name: "steel", Share: 400000}, {Name: "wood", Share: 600000}},
		Parts:      []api.Component{part("seat", 300000), part("arm left", 300000), part("leg", 400000)},
		Incomplete: true,
	}
}

// with returns the plain description with a change.
func with(change func(g *api.Good)) api.Good {
	g := plain()
	change(&g)
	return g
}

// letters returns n words of one letter, in ascending order.
func letters(n int) []string {
	l := make([]string, n)
	for i := range l {
		l[i] = string(rune('a' + i))
	}
	return l
}

// shares returns n shares of 1, but for the last one, which makes them a million.
func shares(n int) []int {
	l := slices.Repeat([]int{1}, n)
	l[n-1] = million - (n - 1)
	return l
}

// materials returns n materials.
func materials(n int) []api.Material {
	l := make([]api.Material, n)
	for i, share := range shares(n) {
		l[i] = api.Material{Name: letters(n)[i], Share: share}
	}
	return l
}

// parts returns n parts.
func parts(n int) []api.Component {
	l := make([]api.Component, n)
	for i, share := range shares(n) {
		l[i] = part("a", share)
	}
	return l
}

// P8.1

func TestWords(t *testing.T) {
	for _, x := range []struct {
		words []string
		want  bool
	}{
		{nil, true}, {[]string{}, true}, {list("a"), true}, {list("z"), true}, {list("chair"), true},
		{list("chair office"), true}, {list("office chair"), false}, {list("chair chair"), false},
		{list("a aa ab b"), true}, {list("aa a"), false}, {list("a ab aa"), false}, {list("a b b c"), false}, {list("b a c"), false}, {list("a c b"), false},
		{list("abcdefghijkl"), true}, {list("abcdefghijklm"), false}, {list("a zzzzzzzzzzzz"), true}, {list("a zzzzzzzzzzzzz"), false},
		{[]string{""}, false}, {[]string{"", "a"}, false}, {[]string{"a", ""}, false},
		{letters(7), true}, {letters(8), true}, {letters(9), false}, {letters(26), false},
		{slices.Repeat(list("a"), 8), false}, {slices.Repeat(list("a"), 9), false},
		{list("Chair"), false}, {list("chaiR"), false}, {list("a1"), false}, {list("1"), false}, {list("a-b"), false}, {list("a_b"), false}, {list("a+b"), false}, {list("a:b"), false}, {list("a,b"), false},
		{[]string{"a b"}, false}, {[]string{" a"}, false}, {[]string{"a "}, false}, {[]string{"a\n"}, false}, {[]string{"a\x00"}, false},
		{list("é"), false}, {list("straße"), false}, {list("aé"), false}, {list("а"), false}, {list("\xff"), false}, {list("a\xe1"), false}, {list("ª"), false},
		{list("a b \xff"), false}, {list("A b"), false}, {list("a B"), false},
	} {
		if got := goods.ValidWords(x.words); got != x.want {
			t.Errorf("ValidWords(%q) = %v, want %v", x.words, got, x.want)
		}
	}
}

func TestWordLengths(t *testing.T) {
	for n := range 40 {
		if got, want := goods.ValidWords([]string{strings.Repeat("x", n)}), n >= 1 && n <= 12; got != want {
			t.Errorf("ValidWords of %d letters = %v, want %v", n, got, want)
		}
	}
}

func TestWordBytes(t *testing.T) {
	for i := range 3 {
		for c := range 256 {
			word := []byte("mmm")
			word[i] = byte(c)
			if got, want := goods.ValidWords([]string{string(word)}), c >= 'a' && c <= 'z'; got != want {
				t.Errorf("ValidWords of %q = %v, want %v", word, got, want)
			}
		}
	}
}

func TestWordRunes(t *testing.T) {
	for c := rune(0); c < 0x20000; c++ {
		if got, want := goods.ValidWords([]string{string(c)}), c >= 'a' && c <= 'z'; got != want {
			t.Errorf("ValidWords of %q = %v, want %v", string(c), got, want)
		}
	}
}

// isSubset, union and common are Subset, Union and Common by the words of P8.1.

func isSubset(a, b []string) bool {
	for _, s := range a {
		if !slices.Contains(b, s) {
			return false
		}
	}
	return true
}

func union(a, b []string) []string {
	found := map[string]bool{}
	var l []string
	for _, s := range append(slices.Clone(a), b...) {
		if !found[s] {
			l = append(l, s)
		}
		found[s] = true
	}
	slices.Sort(l)
	return l
}

func common(a, b []string) int {
	n := 0
	for _, s := range union(a, b) {
		if slices.Contains(a, s) && slices.Contains(b, s) {
			n++
		}
	}
	return n
}

func checkSets(t *testing.T, a, b []string) {
	t.Helper()
	if got, want := goods.Subset(a, b), isSubset(a, b); got != want {
		t.Errorf("Subset(%q, %q) = %v, want %v", a, b, got, want)
	}
	if got, want := goods.Union(a, b), union(a, b); !slices.Equal(got, want) {
		t.Errorf("Union(%q, %q) = %q, want %q", a, b, got, want)
	}
	if got, want := goods.Common(a, b), common(a, b); got != want {
		t.Errorf("Common(%q, %q) = %d, want %d", a, b, got, want)
	}
}

func TestSets(t *testing.T) {
	for _, x := range []struct {
		a, b   []string
		subset bool
		union  []string
		common int
	}{
		{nil, nil, true, nil, 0},
		{nil, list("a"), true, list("a"), 0},
		{list("a"), nil, false, list("a"), 0},
		{[]string{""}, nil, false, []string{""}, 0},
		{[]string{""}, []string{""}, true, []string{""}, 1},
		{list("a"), list("a"), true, list("a"), 1},
		{list("a"), list("b"), false, list("a b"), 0},
		{list("b"), list("a"), false, list("a b"), 0},
		{list("a"), list("a b"), true, list("a b"), 1},
		{list("a b"), list("a"), false, list("a b"), 1},
		{list("chair office"), list("chair furniture office"), true, list("chair furniture office"), 2},
		{list("chair office"), list("chair furniture"), false, list("chair furniture office"), 1},
		// No word lists: with repeated elements, in any order, of any bytes, and longer than 8.
		{list("a a a"), list("a"), true, list("a"), 1},
		{list("a"), list("a a a"), true, list("a"), 1},
		{list("a a"), list("a a"), true, list("a"), 1},
		{list("a a b"), list("b b c a"), true, list("a b c"), 2},
		{list("c b a"), list("b d"), false, list("a b c d"), 1},
		{list("é A 1"), list("A \xff"), false, list("1 A é \xff"), 1},
		{letters(20), letters(26), true, letters(26), 20},
	} {
		if got := goods.Subset(x.a, x.b); got != x.subset {
			t.Errorf("Subset(%q, %q) = %v, want %v", x.a, x.b, got, x.subset)
		}
		if got := goods.Union(x.a, x.b); !slices.Equal(got, x.union) {
			t.Errorf("Union(%q, %q) = %q, want %q", x.a, x.b, got, x.union)
		}
		if got := goods.Common(x.a, x.b); got != x.common {
			t.Errorf("Common(%q, %q) = %d, want %d", x.a, x.b, got, x.common)
		}
		checkSets(t, x.a, x.b)
	}
}

// lists returns all lists of at most so many of the elements, in any order and repeated.
func lists(elements []string, most int) [][]string {
	all := [][]string{nil}
	for i := 0; i < len(all); i++ {
		if len(all[i]) < most {
			for _, s := range elements {
				all = append(all, append(slices.Clone(all[i]), s))
			}
		}
	}
	return all
}

func TestSetsOfAllShortLists(t *testing.T) {
	all := lists([]string{"a", "b", "", "\xff"}, 3)
	for _, a := range all {
		for _, b := range all {
			checkSets(t, a, b)
		}
	}
}

func TestSetsOfLongLists(t *testing.T) {
	r := rand.New(rand.NewSource(1))
	random := func() []string {
		l := make([]string, r.Intn(40))
		for i := range l {
			l[i] = strconv.Itoa(r.Intn(1 + r.Intn(30)))
		}
		return l
	}
	for range 5000 {
		checkSets(t, random(), random())
	}
}

func TestListsAreLeftAlone(t *testing.T) {
	base := list("c a b a")
	a := base[:3]
	b := list("b a d")
	all := goods.Union(a, b)
	goods.Subset(a, b)
	goods.Common(a, b)
	goods.ValidWords(a)
	if !slices.Equal(base, list("c a b a")) || !slices.Equal(b, list("b a d")) {
		t.Errorf("the lists have become %q and %q", base, b)
	}
	scribble(all)
	if !slices.Equal(base, list("c a b a")) || !slices.Equal(b, list("b a d")) {
		t.Errorf("the lists share memory with the union: %q and %q", base, b)
	}
	for _, one := range [][]string{goods.Union(b, nil), goods.Union(nil, b), goods.Union(b[:0], b), goods.Union(b, b[:0]), goods.Union(b[:0], b[:0])} {
		scribble(one)
		if !slices.Equal(b, list("b a d")) {
			t.Fatalf("the list shares memory with the union: %q", b)
		}
	}
}

// scribble replaces the elements of a list, up to its capacity.
func scribble(l []string) {
	l = l[:cap(l)]
	for i := range l {
		l[i] = "scribbled"
	}
}

// P8.2

// fault is a change that makes a description invalid; faults of a lower class are found first.
type fault struct {
	name   string
	class  int
	want   api.Errno
	change func(g *api.Good)
}

func faults() []fault {
	return slices.Concat(faultsOfWords(), faultsOfCounts(), faultsOfNames(), faultsOfShares())
}

func faultsOfWords() []fault {
	return []fault{
		{"no words", 1, api.ErrInvalid, func(g *api.Good) { g.Words = nil }},
		{"empty words", 1, api.ErrInvalid, func(g *api.Good) { g.Words = []string{} }},
		{"words that are not ascending", 1, api.ErrInvalid, func(g *api.Good) { g.Words = list("office chair") }},
		{"a word twice", 1, api.ErrInvalid, func(g *api.Good) { g.Words = list("chair chair") }},
		{"an empty word", 1, api.ErrInvalid, func(g *api.Good) { g.Words[0] = "" }},
		{"a long word", 1, api.ErrInvalid, func(g *api.Good) { g.Words[1] = "officefurnitu" }},
		{"a word with a capital", 1, api.ErrInvalid, func(g *api.Good) { g.Words[0] = "Chair" }},
		{"9 words", 1, api.ErrInvalid, func(g *api.Good) { g.Words = letters(9) }},
	}
}

func faultsOfCounts() []fault {
	return []fault{
		{"9 materials", 2, api.ErrLimit, func(g *api.Good) { g.Materials = materials(9) }},
		{"20 materials", 2, api.ErrLimit, func(g *api.Good) { g.Materials = materials(20) }},
		{"7 parts", 2, api.ErrLimit, func(g *api.Good) { g.Parts = parts(7) }},
		{"20 parts", 2, api.ErrLimit, func(g *api.Good) { g.Parts = parts(20) }},
	}
}

func faultsOfNames() []fault {
	return []fault{
		{"a material without name", 3, api.ErrInvalid, func(g *api.Good) { g.Materials[0].Name = "" }},
		{"a material with a long name", 3, api.ErrInvalid, func(g *api.Good) { g.Materials[1].Name = "zzzzzzzzzzzzz" }},
		{"a material with two words", 3, api.ErrInvalid, func(g *api.Good) { g.Materials[0].Name = "steel+wire" }},
		{"a material with a capital", 3, api.ErrInvalid, func(g *api.Good) { g.Materials[0].Name = "Steel" }},
		{"materials that are not ascending", 3, api.ErrInvalid, func(g *api.Good) { g.Materials[0].Name = "xylem" }},
		{"a material twice", 3, api.ErrInvalid, func(g *api.Good) { g.Materials[0].Name = g.Materials[1].Name }},
		{"a part without words", 4, api.ErrInvalid, func(g *api.Good) { g.Parts[1].Words = nil }},
		{"a part with empty words", 4, api.ErrInvalid, func(g *api.Good) { g.Parts[0].Words = []string{} }},
		{"a part with an empty word", 4, api.ErrInvalid, func(g *api.Good) { g.Parts[2].Words = []string{""} }},
		{"a part with words that are not ascending", 4, api.ErrInvalid, func(g *api.Good) { g.Parts[2].Words = list("left arm") }},
		{"a part with a word twice", 4, api.ErrInvalid, func(g *api.Good) { g.Parts[2].Words = list("left left") }},
		{"a part with 9 words", 4, api.ErrInvalid, func(g *api.Good) { g.Parts[2].Words = letters(9) }},
	}
}

func faultsOfShares() []fault {
	var l []fault
	for _, share := range []int{0, -1, -million, million + 1, math.MaxInt, math.MinInt} {
		name := "the share " + strconv.Itoa(share)
		l = append(l,
			fault{name + " of the first material", 5, api.ErrRange, func(g *api.Good) { g.Materials[0].Share = share }},
			fault{name + " of the last material", 5, api.ErrRange, func(g *api.Good) { g.Materials[len(g.Materials)-1].Share = share }},
			fault{name + " of the first part", 5, api.ErrRange, func(g *api.Good) { g.Parts[0].Share = share }},
			fault{name + " of the last part", 5, api.ErrRange, func(g *api.Good) { g.Parts[len(g.Parts)-1].Share = share }})
	}
	return append(l,
		fault{"shares of parts that balance out of range", 5, api.ErrRange, func(g *api.Good) { g.Parts[0].Share, g.Parts[1].Share, g.Parts[2].Share = -1, 1, million }},
		fault{"shares of materials that balance out of range", 5, api.ErrRange, func(g *api.Good) { g.Materials[0].Share, g.Materials[1].Share = 0, million }},
		fault{"materials of too little", 6, api.ErrInvalid, func(g *api.Good) { g.Materials[0].Share-- }},
		fault{"materials of too much", 6, api.ErrInvalid, func(g *api.Good) { g.Materials[1].Share++ }},
		fault{"materials of two millions", 6, api.ErrInvalid, func(g *api.Good) { g.Materials[0].Share, g.Materials[1].Share = million, million }},
		fault{"parts of too little", 6, api.ErrInvalid, func(g *api.Good) { g.Parts[1].Share-- }},
		fault{"parts of too much", 6, api.ErrInvalid, func(g *api.Good) { g.Parts[2].Share++ }},
		fault{"parts and materials of too much and too little", 6, api.ErrInvalid, func(g *api.Good) { g.Parts[0].Share++; g.Materials[0].Share-- }})
}

func TestFaults(t *testing.T) {
	for _, f := range faults() {
		for _, incomplete := range []bool{false, true} {
			g := with(f.change)
			g.Incomplete = incomplete
			if err := goods.Validate(g); err != f.want {
				t.Errorf("Validate with %s = %d, want %d", f.name, err, f.want)
			}
		}
	}
}

func TestErrorOrder(t *testing.T) {
	for _, first := range faults() {
		for _, second := range faults() {
			if first.class >= second.class {
				continue
			}
			g := plain()
			// Neither change may undo the other one: a wrong count replaces all elements, and a wrong share replaces one of the shares that do not add up.
			if first.class == 2 {
				first.change(&g)
				second.change(&g)
			} else {
				second.change(&g)
				first.change(&g)
			}
			if err := goods.Validate(g); err != first.want {
				t.Errorf("Validate with %s and %s = %d, want %d", first.name, second.name, err, first.want)
			}
		}
	}
}

func TestValid(t *testing.T) {
	for _, g := range []api.Good{
		plain(),
		{Words: list("a")},
		{Words: list("a"), Incomplete: true},
		{Words: []string{"a"}, Materials: []api.Material{}, Parts: []api.Component{}},
		{Words: letters(8)},
		{Words: list("abcdefghijkl zzzzzzzzzzzz")},
		{Words: list("a"), Materials: materials(1)},
		{Words: list("a"), Materials: materials(8)},
		{Words: list("a"), Parts: parts(1)},
		{Words: list("a"), Parts: parts(6)},
		{Words: letters(8), Materials: materials(8), Parts: parts(6), Incomplete: true},
		// Parts are in any order, and may be equal.
		{Words: list("a"), Parts: []api.Component{part("z", 1), part("b c", 999998), part("a", 1)}},
		{Words: list("a"), Parts: []api.Component{part("z", 500000), part("z", 500000)}},
		{Words: list("a"), Parts: []api.Component{{Words: letters(8), Share: million}}},
		{Words: list("a"), Materials: []api.Material{{Name: "aaaaaaaaaaaa", Share: 1}, {Name: "zzzzzzzzzzzz", Share: 999999}}},
		// The words of the goods may be names of materials and words of parts.
		{Words: list("steel"), Materials: []api.Material{{Name: "steel", Share: million}}, Parts: []api.Component{part("steel", million)}},
	} {
		if err := goods.Validate(g); err != api.OK {
			t.Errorf("Validate(%v) = %d, want OK", g, err)
		}
	}
}

// isListOfWords tells whether l is a word list and not empty, by the words of the chapter.
func isListOfWords(l []string) bool {
	ok := len(l) >= 1 && len(l) <= 8 && slices.IsSorted(l) && len(slices.Compact(slices.Clone(l))) == len(l)
	for _, s := range l {
		ok = ok && isOneWord(s)
	}
	return ok
}

func isOneWord(s string) bool {
	return len(s) >= 1 && len(s) <= 12 && strings.Trim(s, "abcdefghijklmnopqrstuvwxyz") == ""
}

// expectedError is the error of a description by the words of P8.2.
func expectedError(g api.Good) api.Errno {
	if !isListOfWords(g.Words) {
		return api.ErrInvalid
	}
	if len(g.Materials) > 8 || len(g.Parts) > 6 {
		return api.ErrLimit
	}
	var all []int
	ofMaterials, ofParts := 0, 0
	for i, m := range g.Materials {
		if !isOneWord(m.Name) || i > 0 && g.Materials[i-1].Name >= m.Name {
			return api.ErrInvalid
		}
		all = append(all, m.Share)
		ofMaterials += m.Share
	}
	for _, p := range g.Parts {
		if !isListOfWords(p.Words) {
			return api.ErrInvalid
		}
		all = append(all, p.Share)
		ofParts += p.Share
	}
	if len(all) > 0 && (slices.Min(all) < 1 || slices.Max(all) > million) {
		return api.ErrRange
	}
	if len(g.Materials) > 0 && ofMaterials != million || len(g.Parts) > 0 && ofParts != million {
		return api.ErrInvalid
	}
	return api.OK
}

// randomShares returns n shares that make a million.
func randomShares(r *rand.Rand, n int) []int {
	l := make([]int, n)
	rest := million
	for i := range n - 1 {
		l[i] = 1 + r.Intn(rest-(n-1-i))
		if r.Intn(2) == 0 {
			l[i] = 1
		}
		rest -= l[i]
	}
	l[n-1] = rest
	return l
}

// randomWords returns a word list that is not empty, of at most so many words.
func randomWords(r *rand.Rand, most int) []string {
	found := map[string]bool{}
	for range 1 + r.Intn(most) {
		word := make([]byte, 1+r.Intn(1+r.Intn(12)))
		for i := range word {
			word[i] = byte('a' + r.Intn(1+r.Intn(26)))
		}
		found[string(word)] = true
	}
	var l []string
	for s := range found {
		l = append(l, s)
	}
	slices.Sort(l)
	return l
}

// randomGood returns a valid description.
func randomGood(r *rand.Rand) api.Good {
	g := api.Good{Words: randomWords(r, 8), Incomplete: r.Intn(2) == 0}
	if r.Intn(3) > 0 {
		names := randomWords(r, 8)
		for i, share := range randomShares(r, len(names)) {
			g.Materials = append(g.Materials, api.Material{Name: names[i], Share: share})
		}
	}
	if r.Intn(3) > 0 {
		for _, share := range randomShares(r, 1+r.Intn(6)) {
			g.Parts = append(g.Parts, api.Component{Words: randomWords(r, 1+r.Intn(8)), Share: share})
		}
	}
	return g
}

// spoil changes something of a description, which may make it invalid.
func spoil(r *rand.Rand, g *api.Good) {
	share := []int{0, 1, -1, million, million + 1, 500000}[r.Intn(6)]
	words := [][]string{nil, list("a"), list("a b"), list("b a"), list("a a"), list("A"), {""}, letters(8), letters(9)}[r.Intn(9)]
	switch r.Intn(8) {
	case 0:
		g.Words = words
	case 1:
		g.Parts = append(g.Parts, api.Component{Words: words, Share: share})
	case 2:
		g.Materials = append(g.Materials, api.Material{Name: strings.Join(words, ""), Share: share})
	case 3:
		if n := len(g.Parts); n > 0 {
			g.Parts[r.Intn(n)].Words = words
		}
	case 4:
		if n := len(g.Parts); n > 0 {
			g.Parts[r.Intn(n)].Share = share
		}
	case 5:
		if n := len(g.Materials); n > 0 {
			g.Materials[r.Intn(n)].Share = share
		}
	case 6:
		if n := len(g.Materials); n > 0 {
			g.Materials[r.Intn(n)].Name = strings.Join(words, "")
		}
	case 7:
		g.Parts, g.Materials = nil, nil
	}
}

func TestValidateOfRandomDescriptions(t *testing.T) {
	r := rand.New(rand.NewSource(2))
	for range 100000 {
		g := randomGood(r)
		for range r.Intn(4) {
			spoil(r, &g)
		}
		if got, want := goods.Validate(g), expectedError(g); got != want {
			t.Fatalf("Validate(%v) = %d, want %d", g, got, want)
		}
	}
}

func TestDescriptionIsLeftAlone(t *testing.T) {
	r := rand.New(rand.NewSource(3))
	for range 2000 {
		g := randomGood(r)
		for range r.Intn(3) {
			spoil(r, &g)
		}
		before := clone(g)
		goods.Validate(g)
		goods.Format(g)
		goods.Characters(g)
		if !reflect.DeepEqual(g, before) {
			t.Fatalf("the description %v has become %v", before, g)
		}
	}
}

// clone returns a copy of a description that shares no memory with it.
func clone(g api.Good) api.Good {
	c := g
	c.Words = slices.Clone(g.Words)
	c.Materials = slices.Clone(g.Materials)
	c.Parts = slices.Clone(g.Parts)
	for i := range c.Parts {
		c.Parts[i].Words = slices.Clone(c.Parts[i].Words)
	}
	return c
}

// P8.4

func TestCharacters(t *testing.T) {
	for _, x := range []struct {
		good api.Good
		want []api.Component
	}{
		{api.Good{Words: list("a")}, nil},
		{api.Good{Words: list("a"), Incomplete: true}, nil},
		{api.Good{Words: list("chair office"), Materials: []api.Material{{Name: "steel", Share: 400000}, {Name: "wood", Share: 600000}}}, []api.Component{part("wood", 600000), part("steel", 400000)}},
		{api.Good{Words: list("a"), Materials: []api.Material{{Name: "steel", Share: 600000}, {Name: "wood", Share: 400000}}}, []api.Component{part("steel", 600000), part("wood", 400000)}},
		{api.Good{Words: list("a"), Materials: []api.Material{{Name: "b", Share: 250000}, {Name: "c", Share: 250000}, {Name: "d", Share: 500000}}}, []api.Component{part("d", 500000), part("b", 250000), part("c", 250000)}},
		{api.Good{Words: list("a"), Materials: materials(1), Incomplete: true}, []api.Component{part("a", million)}},
		// If there are parts, the materials do not count.
		{plain(), []api.Component{part("leg", 400000), part("seat", 300000), part("arm left", 300000)}},
		{api.Good{Words: list("a"), Materials: materials(8), Parts: parts(1)}, []api.Component{part("a", million)}},
		{api.Good{Words: list("a"), Parts: []api.Component{part("z", 500000), part("b c", 500000)}}, []api.Component{part("z", 500000), part("b c", 500000)}},
		{api.Good{Words: list("a"), Parts: []api.Component{part("z", 400000), part("b", 200000), part("z", 400000)}}, []api.Component{part("z", 400000), part("z", 400000), part("b", 200000)}},
	} {
		if err := goods.Validate(x.good); err != api.OK {
			t.Fatalf("Validate(%v) = %d", x.good, err)
		}
		if got := goods.Characters(x.good); !sameComponents(got, x.want) {
			t.Errorf("Characters(%v) = %v, want %v", x.good, got, x.want)
		}
	}
}

// expectedCharacters returns the characters by the words of P8.4: it takes out the first one of the greatest share until none is left.
func expectedCharacters(g api.Good) []api.Component {
	left := slices.Clone(g.Parts)
	if len(left) == 0 {
		for _, m := range g.Materials {
			left = append(left, api.Component{Words: []string{m.Name}, Share: m.Share})
		}
	}
	var l []api.Component
	for len(left) > 0 {
		best := 0
		for i, c := range left {
			if c.Share > left[best].Share {
				best = i
			}
		}
		l = append(l, left[best])
		left = slices.Delete(left, best, best+1)
	}
	return l
}

func TestCharactersOfRandomDescriptions(t *testing.T) {
	r := rand.New(rand.NewSource(4))
	for range 30000 {
		g := randomGood(r)
		if got, want := goods.Characters(g), expectedCharacters(g); !sameComponents(got, want) {
			t.Fatalf("Characters(%v) = %v, want %v", g, got, want)
		}
	}
}

func TestCharactersShareNoMemory(t *testing.T) {
	for _, g := range []api.Good{plain(), with(func(g *api.Good) { g.Parts = nil }), with(func(g *api.Good) { g.Parts = g.Parts[:1:3]; g.Parts[0].Share = million })} {
		before := clone(g)
		all := goods.Characters(g)
		again := goods.Characters(g)
		want := goods.Characters(before)
		for _, c := range all {
			scribble(c.Words)
		}
		all = all[:cap(all)]
		clear(all)
		if !reflect.DeepEqual(g, before) {
			t.Errorf("the description shares memory with its characters: %v", g)
		}
		if !sameComponents(again, want) {
			t.Errorf("the characters share memory with those of another call: %v", again)
		}
	}
	for i, c := range goods.Characters(plain()) {
		all := goods.Characters(plain())
		scribble(all[i].Words)
		for k, other := range all {
			if k != i && slices.Contains(other.Words, "scribbled") {
				t.Errorf("the words of %v share memory with those of %v", c, other)
			}
		}
	}
}

func TestInvalidDescriptionsDoNotPanic(t *testing.T) {
	for _, f := range faults() {
		goods.Characters(with(f.change))
	}
	goods.Characters(api.Good{})
}
