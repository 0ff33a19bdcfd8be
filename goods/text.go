package goods

import (
	"strconv"
	"strings"

	"customs/api"
)

const (
	materialsMark  = " m:"
	partsMark      = " p:"
	incompleteMark = " incomplete"
)

// Format returns the text of a valid description, and an empty one for any other description (P8.3).
func Format(g api.Good) string {
	if Validate(g) != api.OK {
		return ""
	}
	s := strings.Join(g.Words, "+") + section(materialsMark, components(g.Materials)) + section(partsMark, g.Parts)
	if g.Incomplete {
		s += incompleteMark
	}
	return s
}

// Parse returns the valid description whose text is s (P8.3).
func Parse(s string) (api.Good, api.Errno) {
	// read takes any text; that of no description yields one that is not valid or has another text.
	g := read(s)
	if Validate(g) != api.OK || Format(g) != s {
		return api.Good{}, api.ErrSyntax
	}
	return g, api.OK
}

// section returns the text of components after its mark, and an empty one if there are none.
func section(mark string, l []api.Component) string {
	if len(l) == 0 {
		return ""
	}
	texts := make([]string, len(l))
	for i, c := range l {
		texts[i] = strings.Join(c.Words, "+") + ":" + strconv.Itoa(c.Share)
	}
	return mark + strings.Join(texts, ",")
}

// read returns the description whose text is s; where there is none, it returns any description.
func read(s string) api.Good {
	var g api.Good
	s, g.Incomplete = strings.CutSuffix(s, incompleteMark)
	s, parts, _ := strings.Cut(s, partsMark)
	s, materials, _ := strings.Cut(s, materialsMark)
	g.Words = words(s)
	for _, text := range split(materials, maxMaterials) {
		name, share := named(text)
		g.Materials = append(g.Materials, api.Material{Name: name, Share: share})
	}
	for _, text := range split(parts, maxParts) {
		name, share := named(text)
		g.Parts = append(g.Parts, api.Component{Words: words(name), Share: share})
	}
	return g
}

// words returns the words of a text, or too many of them.
func words(s string) []string { return strings.SplitN(s, "+", maxWords+1) }

// split returns the texts of the materials or parts of a section, of which there are at most so many, or too many of them.
func split(s string, most int) []string {
	if s == "" {
		return nil
	}
	return strings.SplitN(s, ",", most+1)
}

// named returns what the text of a material or part has before its colon, and its share, or any number if it has none.
func named(s string) (string, int) {
	name, number, _ := strings.Cut(s, ":")
	share, _ := strconv.Atoi(number)
	return name, share
}
