package value

import (
	"broadside/api"
	"broadside/runes"
)

// decimal is the number of the style that is meant where none is said.
const decimal = 0

// styles is the numbers of the counters' styles.
func styles() map[string]int {
	return map[string]int{
		"decimal":              decimal,
		"decimal-leading-zero": 1,
		"lower-roman":          2,
		"upper-roman":          3,
		"lower-alpha":          4,
		"lower-latin":          4,
		"upper-alpha":          5,
		"upper-latin":          5,
		"lower-greek":          6,
		none:                   7,
	}
}

// which is the words that say which of a page's assignments counts.
func which() map[string]int {
	return map[string]int{
		"first":        api.First,
		"start":        api.Start,
		"last":         api.Last,
		"first-except": api.Except,
	}
}

// breaks is the words of breaks.
func breaks() map[string]int {
	return map[string]int{
		auto:         api.Auto,
		"avoid":      api.Avoid,
		"avoid-page": api.Avoid,
		"page":       api.Page,
		"always":     api.Page,
		"left":       api.Left,
		"verso":      api.Left,
		"right":      api.Right,
		"recto":      api.Right,
	}
}

// ratio is how many px a unit is, in whole numbers, so that nothing is lost ahead of the division.
type ratio struct{ px, per int }

// units is the units of lengths.
func units() map[string]ratio {
	return map[string]ratio{
		"px": {1, 1},
		"pt": {4, 3},
		"pc": {16, 1},
		"in": {96, 1},
		"cm": {9600, 254},
		"mm": {9600, 2540},
	}
}

// word is the text, in small letters, of an Ident that is all there is; else it is empty, which is no word.
func word(l []api.Token) string {
	if len(l) != 1 || l[0].Kind != api.Ident {
		return ""
	}
	return runes.Lower(l[0].Text)
}

// isName tells whether a token is a name.
func isName(t api.Token) bool {
	if t.Kind != api.Ident {
		return false
	}
	switch runes.Lower(t.Text) {
	case none, auto, initial, inherit:
		return false
	}
	return true
}

// leading is the name with which tokens begin, and what is behind it.
func leading(l []api.Token) (string, []api.Token, bool) {
	if len(l) == 0 || !isName(l[0]) {
		return "", nil, false
	}
	return l[0].Text, l[1:], true
}

// only is the name that is all there is.
func only(l []api.Token) (string, bool) {
	name, rest, is := leading(l)
	if !is || len(rest) > 0 {
		return "", false
	}
	return name, true
}

// counting tells the count with which tokens begin, and how many of them it takes: where none stands, what is usual, and none.
func counting(usual int) func(l []api.Token) (n, size int) {
	return func(l []api.Token) (int, int) {
		if len(l) == 0 || l[0].Kind != api.Number || l[0].N%unit != 0 {
			return usual, 0
		}
		return max(api.MinCount, min(l[0].N/unit, api.MaxCount)), 1
	}
}
