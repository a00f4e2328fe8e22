package nest_test

import (
	"fmt"
	"math"
	"math/rand"
	"slices"
	"testing"

	"broadside/api"
	"broadside/nest"
)

// letters is what the letters of a list in these tests stand for.
var letters = map[rune]api.Token{
	'f': {Kind: api.Func, Text: "f"},
	'(': {Kind: api.Open, Text: "("},
	'[': {Kind: api.Open, Text: "["},
	'{': {Kind: api.Open, Text: "{"},
	')': {Kind: api.Close, Text: ")"},
	']': {Kind: api.Close, Text: "]"},
	'}': {Kind: api.Close, Text: "}"},
	' ': {Kind: api.Space},
	'a': {Kind: api.Ident, Text: "a"},
	',': {Kind: api.Comma},
	';': {Kind: api.Semi},
}

// list is a list of tokens, one for each letter.
func list(s string) []api.Token {
	var l []api.Token
	for _, r := range s {
		t, ok := letters[r]
		if !ok {
			panic("no token for " + string(r))
		}
		l = append(l, t)
	}
	return l
}

// ends is what Ends tells of tokens, that are not too deep.
func ends(t *testing.T, l []api.Token) []int {
	t.Helper()
	got, e := nest.Ends(l)
	if e != api.OK {
		t.Fatalf("Ends(%+v) tells %d", l, e)
	}
	return got
}

// partner is, by the chapter's words read from the opening on, where an opening's closing stands: past all that is closed within.
func partner(l []api.Token, at int) int {
	want := map[string]string{"(": ")", "[": "]", "{": "}"}[l[at].Text]
	if l[at].Kind == api.Func {
		want = ")"
	}
	for k := at + 1; k < len(l); k++ {
		if opens(l[k]) {
			if k = partner(l, k); k == len(l) {
				return k
			}
		} else if l[k].Kind == api.Close && l[k].Text == want {
			return k
		}
	}
	return len(l)
}

// opens tells whether a token is an opening.
func opens(t api.Token) bool {
	return t.Kind == api.Func || t.Kind == api.Open && (t.Text == "(" || t.Text == "[" || t.Text == "{")
}

// partners is what Ends should tell.
func partners(l []api.Token) []int {
	want := []int{}
	for at := range l {
		end := -1
		if opens(l[at]) {
			end = partner(l, at)
		}
		want = append(want, end)
	}
	return want
}

// each calls try with every list of the letters, up to a length.
func each(letters string, most int, try func(s string)) {
	var grow func(s string)
	grow = func(s string) {
		try(s)
		if len(s) == most {
			return
		}
		for _, r := range letters {
			grow(s + string(r))
		}
	}
	grow("")
}

// random is a list of letters, made anew from the source.
func random(r *rand.Rand, letters string, n int) string {
	b := make([]byte, n)
	for k := range b {
		b[k] = letters[r.Intn(len(letters))]
	}
	return string(b)
}

// times is a list of letters, many times.
func times(s string, n int) string {
	all := ""
	for range n {
		all += s
	}
	return all
}

// same tells whether two lists are, where nil and empty mean the same.
func same(a, b []int) bool { return slices.Equal(a, b) }

// P5.1: the places of the closings, in the cases that the chapter names.
func TestEnds(t *testing.T) {
	for _, c := range []struct {
		s    string
		want []int
	}{
		{"", nil},
		{"a", []int{-1}},
		{" a,;", []int{-1, -1, -1, -1}},
		{"f)", []int{1, -1}},
		{"()", []int{1, -1}},
		{"[]", []int{1, -1}},
		{"{}", []int{1, -1}},
		{"f", []int{1}},
		{"(", []int{1}},
		{"[", []int{1}},
		{"{", []int{1}},
		{")", []int{-1}},
		{"]", []int{-1}},
		{"}", []int{-1}},
		{")(", []int{-1, 2}},
		{"())", []int{1, -1, -1}},
		{"f]", []int{2, -1}},
		{"f})", []int{2, -1, -1}},
		{"(]}", []int{3, -1, -1}},
		{"[)}]", []int{3, -1, -1, -1}},
		{"{)]}", []int{3, -1, -1, -1}},
		{"([)]", []int{4, 3, -1, -1}},
		{"([)])", []int{4, 3, -1, -1, -1}},
		{"{(})}", []int{4, 3, -1, -1, -1}},
		{"f[a]{f)})", []int{8, 3, -1, -1, 7, 6, -1, -1, -1}},
		{"(()", []int{3, 2, -1}},
		{"(([]", []int{4, 4, 3, -1}},
		{"f a,a);", []int{5, -1, -1, -1, -1, -1, -1}},
		{"()()", []int{1, -1, 3, -1}},
	} {
		if got, e := nest.Ends(list(c.s)); e != api.OK || !same(got, c.want) {
			t.Errorf("Ends(%q) = %v, %d, want %v", c.s, got, e, c.want)
		}
	}
	if got, e := nest.Ends([]api.Token{}); e != api.OK || len(got) != 0 {
		t.Errorf("Ends of an empty list = %v, %d", got, e)
	}
}

// P5.1: an Open of another text is none, nor does a Close of another text close anything; what a token has beside counts for nothing.
func TestOtherTexts(t *testing.T) {
	for _, s := range []string{"", "<", ")", "]", "}", "((", "( ", "()", "f", "\x00"} {
		l := []api.Token{{Kind: api.Open, Text: s}, {Kind: api.Close, Text: ")"}, {Kind: api.Close, Text: "]"}, {Kind: api.Close, Text: "}"}}
		if got := ends(t, l); !same(got, []int{-1, -1, -1, -1}) {
			t.Errorf("Ends of an Open %q = %v", s, got)
		}
	}
	for _, s := range []string{"", ">", "(", "[", "{", "))", ") ", "f"} {
		for _, opening := range list("f([{") {
			l := []api.Token{opening, {Kind: api.Close, Text: s}}
			if got := ends(t, l); !same(got, []int{2, -1}) {
				t.Errorf("Ends of %+v = %v", l, got)
			}
		}
	}
	for _, s := range []string{"", "[", "{", "(", "]", "url"} {
		l := []api.Token{{Kind: api.Func, Text: s, N: 7}, {Kind: api.Close, Text: "]"}, {Kind: api.Close, Text: "}"}, {Kind: api.Close, Text: ")", N: -1}}
		if got := ends(t, l); !same(got, []int{3, -1, -1, -1}) {
			t.Errorf("Ends of a Func %q = %v", s, got)
		}
	}
}

// P5.1: no other kind opens or closes, whatever its text.
func TestOtherKinds(t *testing.T) {
	for _, kind := range []int{math.MinInt, -1, 0, 1, 2, 4, 5, 6, 7, 8, 9, 10, 11, 14, 15, 16, 17, math.MaxInt} {
		for _, s := range []string{"(", "[", "{", ")", "]", "}", ""} {
			l := []api.Token{{Kind: api.Open, Text: "("}, {Kind: kind, Text: s}, {Kind: api.Close, Text: ")"}}
			if got := ends(t, l); !same(got, []int{2, -1, -1}) {
				t.Errorf("Ends of %+v = %v", l, got)
			}
		}
	}
}

// P5.1: all short lists of brackets, and many longer ones, held against each opening's closing looked for by itself.
func TestEndsAll(t *testing.T) {
	try := func(s string) {
		l := list(s)
		if got, e := nest.Ends(l); e != api.OK || !same(got, partners(l)) {
			t.Fatalf("Ends(%q) = %v, %d, want %v", s, got, e, partners(l))
		}
	}
	each("f([{)]}a", 5, try)
	each("([)]", 8, try)
	r := rand.New(rand.NewSource(5))
	for range 3000 {
		try(random(r, "f([{)]}))]} a", 1+r.Intn(60)))
	}
}

// P5.1: 64 may be open at one time, and no more.
func TestDeep(t *testing.T) {
	const deep = api.MaxDepth
	for _, s := range []string{"f", "(", "[", "{"} {
		l := list(times(s, deep))
		if got := ends(t, l); !same(got, slices.Repeat([]int{deep}, deep)) {
			t.Errorf("Ends of %d times %q = %v", deep, s, got)
		}
	}
	for _, s := range []string{
		times("f([{", deep/4) + times("}])) a", 1) + times("}]))", deep/4),
		times("(", deep) + ")(",
		times("(", deep-1) + times("[]f){}", 40),
		times("(", deep) + times("a];} ", 20),
		times(times("(", deep)+times(")", deep), 20),
		times("()", 1000),
		times(")", 200),
	} {
		l := list(s)
		if got, e := nest.Ends(l); e != api.OK || !same(got, partners(l)) {
			t.Errorf("Ends(%q) = %v, %d", s, got, e)
		}
	}
	for _, s := range []string{
		times("f", deep+1),
		times("(", deep+1),
		times("[", deep+1),
		times("{", deep+1),
		times("(", deep) + "f",
		times("(", deep) + "[]",
		times("(", deep) + "]{" + times(")", deep+1),
		times("(", deep) + "]}];, a" + times(")", deep-1) + times("{", deep),
		times("(a", deep+1) + times(")", deep+1),
		times("(", deep) + ")((",
		"()" + times("f([{", deep/4) + "f" + times("a", 100),
		times("(", 1000),
	} {
		if got, e := nest.Ends(list(s)); e != api.ErrDeep || len(got) != 0 {
			t.Errorf("Ends(%q) = %v, %d, want %d", s, got, e, api.ErrDeep)
		}
	}
	l := append(list(times("(", deep)), api.Token{Kind: api.Open, Text: "<"})
	if got, e := nest.Ends(l); e != api.OK || got[deep] != -1 {
		t.Errorf("Ends of %d openings and what is none = %v, %d", deep, got, e)
	}
}

// P5.2: the place behind a token.
func TestSkip(t *testing.T) {
	for _, c := range []struct {
		s    string
		want []int
	}{
		{"a", []int{1}},
		{"f)a", []int{2, 2, 3}},
		{"(a)[]{}", []int{3, 2, 3, 5, 5, 7, 7}},
		{"a(", []int{1, 2}},
		{"(a[]a", []int{5, 2, 4, 4, 5}},
		{"([)]", []int{4, 4, 3, 4}},
		{")a]", []int{1, 2, 3}},
		{"((()))", []int{6, 5, 4, 4, 5, 6}},
	} {
		l := list(c.s)
		told := ends(t, l)
		for at, want := range c.want {
			if got := nest.Skip(told, at); got != want {
				t.Errorf("Skip(%q, %d) = %d, want %d", c.s, at, got, want)
			}
		}
		for _, at := range []int{math.MinInt, math.MinInt + 1, -100, -2, -1, len(l), len(l) + 1, 1 << 40, math.MaxInt - 1} {
			if got := nest.Skip(told, at); got != at+1 {
				t.Errorf("Skip(%q, %d) = %d, want %d", c.s, at, got, at+1)
			}
		}
		nest.Skip(told, math.MaxInt)
	}
	for _, at := range []int{-1, 0, 1} {
		if nest.Skip(nil, at) != at+1 || nest.Skip([]int{}, at) != at+1 {
			t.Errorf("Skip of nothing, %d", at)
		}
	}
}

// P5.2: what Ends did not tell is gone past one by one: no place leads back, or out of the list.
func TestSkipOthers(t *testing.T) {
	for _, l := range [][]int{{0, -1, -1}, {-2, -1, -1}, {4, -1, -1}, {math.MaxInt, -1, -1}, {math.MinInt, -1, -1}} {
		if got := nest.Skip(l, 0); got != 1 {
			t.Errorf("Skip(%v, 0) = %d", l, got)
		}
	}
	if got := nest.Skip([]int{-1, -1, 0}, 2); got != 3 {
		t.Errorf("Skip back = %d", got)
	}
}

// gone is, by the chapter's words, the places that are asked from from on, ahead of to.
func gone(l []api.Token, from, to int) []int {
	var places []int
	for at := from; at < to; at++ {
		places = append(places, at)
		if opens(l[at]) {
			at = partner(l, at)
		}
	}
	return places
}

// first is what Find should tell.
func first(l []api.Token, from, to int, is func(t api.Token) bool) int {
	for _, at := range gone(l, from, to) {
		if is(l[at]) {
			return at
		}
	}
	return -1
}

// kind is a function that tells whether a token is of a kind.
func kind(k int) func(t api.Token) bool {
	return func(t api.Token) bool { return t.Kind == k }
}

// P5.2: the first place of which something holds, and what is asked on the way.
func TestFind(t *testing.T) {
	for _, c := range []struct {
		s        string
		from, to int
		kind     int
		want     int
	}{
		{"", 0, 0, api.Semi, -1},
		{";", 0, 0, api.Semi, -1},
		{";", 1, 1, api.Semi, -1},
		{";", 0, 1, api.Semi, 0},
		{"a;;", 0, 3, api.Semi, 1},
		{"a;;", 2, 3, api.Semi, 2},
		{"a;", 0, 1, api.Semi, -1},
		{"(;);", 0, 4, api.Semi, 3},
		{"(;);", 1, 4, api.Semi, 1},
		{"(;);", 2, 4, api.Semi, 3},
		{"(;);", 0, 3, api.Semi, -1},
		{"f;);", 0, 4, api.Func, 0},
		{"af;)f", 2, 5, api.Func, 4},
		{"(f))f", 0, 5, api.Func, 4},
		{"{a}", 0, 3, api.Open, 0},
		{"{a}", 0, 3, api.Close, -1},
		{"{a}", 1, 3, api.Close, 2},
		{"a]{}", 0, 4, api.Close, 1},
		{"([;)];", 0, 6, api.Semi, -1},
		{"([;)];", 1, 6, api.Semi, 5},
		{"(;", 0, 2, api.Semi, -1},
		{"a(a", 0, 2, api.Open, 1},
		{"a( )", 0, 2, api.Space, -1},
	} {
		l := list(c.s)
		if got := nest.Find(l, ends(t, l), c.from, c.to, kind(c.kind)); got != c.want {
			t.Errorf("Find(%q, %d, %d, kind %d) = %d, want %d", c.s, c.from, c.to, c.kind, got, c.want)
		}
	}
}

// P5.2: the tokens asked are those gone by, each whole, in order, up to the one of which it holds.
func TestFindAsks(t *testing.T) {
	l := []api.Token{{Kind: api.Ident, Text: "b"}, {Kind: api.Func, Text: "f"}, {Kind: api.Number, N: 5}, {Kind: api.Close, Text: ")"}, {Kind: api.Dim, Text: "px", N: -7}, {Kind: api.Close, Text: "]"}, {Kind: api.Semi}, {Kind: api.Comma}}
	var asked []api.Token
	got := nest.Find(l, ends(t, l), 0, len(l), func(t api.Token) bool {
		asked = append(asked, t)
		return t.Kind == api.Semi
	})
	if want := []api.Token{l[0], l[1], l[4], l[5], l[6]}; got != 6 || !slices.Equal(asked, want) {
		t.Errorf("Find = %d, asked %+v, want %+v", got, asked, want)
	}
}

// parts is what Split should tell.
func parts(l []api.Token, from, to, kind int) [][2]int {
	var all [][2]int
	begin := from
	for _, at := range gone(l, from, to) {
		if l[at].Kind == kind {
			all = append(all, [2]int{begin, at})
			begin = at + 1
		}
	}
	return append(all, [2]int{begin, to})
}

// P5.2: the parts between tokens of a kind.
func TestSplit(t *testing.T) {
	for _, c := range []struct {
		s        string
		from, to int
		kind     int
		want     [][2]int
	}{
		{"", 0, 0, api.Comma, [][2]int{{0, 0}}},
		{"a", 0, 1, api.Comma, [][2]int{{0, 1}}},
		{"a", 1, 1, api.Comma, [][2]int{{1, 1}}},
		{",", 0, 0, api.Comma, [][2]int{{0, 0}}},
		{",", 0, 1, api.Comma, [][2]int{{0, 0}, {1, 1}}},
		{"a,a", 0, 3, api.Comma, [][2]int{{0, 1}, {2, 3}}},
		{",a,", 0, 3, api.Comma, [][2]int{{0, 0}, {1, 2}, {3, 3}}},
		{",,", 0, 2, api.Comma, [][2]int{{0, 0}, {1, 1}, {2, 2}}},
		{"a,a,a", 2, 4, api.Comma, [][2]int{{2, 3}, {4, 4}}},
		{"a,a,a", 2, 3, api.Comma, [][2]int{{2, 3}}},
		{"fa,a),a", 0, 7, api.Comma, [][2]int{{0, 5}, {6, 7}}},
		{"fa,a),a", 1, 4, api.Comma, [][2]int{{1, 2}, {3, 4}}},
		{"fa,a),a", 1, 7, api.Comma, [][2]int{{1, 2}, {3, 5}, {6, 7}}},
		{"fa,a),a", 0, 3, api.Comma, [][2]int{{0, 3}}},
		{"afa)a", 0, 5, api.Func, [][2]int{{0, 1}, {2, 5}}},
		{"faf)a)f)", 0, 8, api.Func, [][2]int{{0, 0}, {1, 6}, {7, 8}}},
		{"faf)a)f)", 1, 8, api.Func, [][2]int{{1, 2}, {3, 6}, {7, 8}}},
		{"a{a", 0, 3, api.Open, [][2]int{{0, 1}, {2, 3}}},
		{"a{", 0, 2, api.Open, [][2]int{{0, 1}, {2, 2}}},
		{"([])", 0, 2, api.Open, [][2]int{{0, 0}, {1, 2}}},
		{"([)]", 0, 4, api.Close, [][2]int{{0, 4}}},
		{"a)(])", 0, 5, api.Close, [][2]int{{0, 1}, {2, 5}}},
		{"a a", 0, 3, api.Space, [][2]int{{0, 1}, {2, 3}}},
	} {
		l := list(c.s)
		if got := nest.Split(l, ends(t, l), c.from, c.to, c.kind); !slices.Equal(got, c.want) {
			t.Errorf("Split(%q, %d, %d, kind %d) = %v, want %v", c.s, c.from, c.to, c.kind, got, c.want)
		}
	}
}

// P5.2: Skip, Find and Split of all short lists and places, held against the places gone by.
func TestPlacesAll(t *testing.T) {
	try := func(s string) {
		l := list(s)
		told := ends(t, l)
		for from := 0; from <= len(l); from++ {
			if places := gone(l, from, len(l)); len(places) > 1 && nest.Skip(told, from) != places[1] {
				t.Fatalf("Skip(%q, %d) = %d, want %d", s, from, nest.Skip(told, from), places[1])
			}
			for to := from; to <= len(l); to++ {
				for k := 0; k <= api.Comma+1; k++ {
					if got, want := nest.Find(l, told, from, to, kind(k)), first(l, from, to, kind(k)); got != want {
						t.Fatalf("Find(%q, %d, %d, kind %d) = %d, want %d", s, from, to, k, got, want)
					}
					if got, want := nest.Split(l, told, from, to, k), parts(l, from, to, k); !slices.Equal(got, want) {
						t.Fatalf("Split(%q, %d, %d, kind %d) = %v, want %v", s, from, to, k, got, want)
					}
				}
			}
		}
	}
	each("f[)],", 4, try)
	r := rand.New(rand.NewSource(6))
	for range 150 {
		try(random(r, "f([{)]})]}, ;a", 1+r.Intn(20)))
	}
}

// P5.2: places without Space at both ends.
func TestTrim(t *testing.T) {
	for _, c := range []struct {
		s                   string
		from, to            int
		wantFrom, wantUntil int
	}{
		{"", 0, 0, 0, 0},
		{"a", 0, 1, 0, 1},
		{"a", 0, 0, 0, 0},
		{"a", 1, 1, 1, 1},
		{" ", 0, 1, 1, 1},
		{" ", 0, 0, 0, 0},
		{"   ", 0, 3, 3, 3},
		{"   ", 1, 2, 2, 2},
		{"a   a", 1, 4, 4, 4},
		{" a", 0, 2, 1, 2},
		{"a ", 0, 2, 0, 1},
		{"  a a  ", 0, 7, 2, 5},
		{"  a a  ", 2, 5, 2, 5},
		{"  a a  ", 3, 7, 4, 5},
		{"  a a  ", 0, 4, 2, 3},
		{"( )", 0, 3, 0, 3},
		{" ( ) ", 0, 5, 1, 4},
		{" ( ) ", 2, 3, 3, 3},
		{"a( ", 0, 3, 0, 2},
		{", ;", 0, 3, 0, 3},
	} {
		if from, to := nest.Trim(list(c.s), c.from, c.to); from != c.wantFrom || to != c.wantUntil {
			t.Errorf("Trim(%q, %d, %d) = %d, %d, want %d, %d", c.s, c.from, c.to, from, to, c.wantFrom, c.wantUntil)
		}
	}
}

// P5.2: of tokens, Space alone is trimmed, whatever else a token has.
func TestTrimKinds(t *testing.T) {
	for k := -1; k <= 18; k++ {
		l := []api.Token{{Kind: k, Text: " ", N: 1}, {Kind: api.Ident}, {Kind: k}}
		wantFrom, wantUntil := 0, 3
		if k == api.Space {
			wantFrom, wantUntil = 1, 2
		}
		if from, to := nest.Trim(l, 0, 3); from != wantFrom || to != wantUntil {
			t.Errorf("Trim of kind %d = %d, %d", k, from, to)
		}
	}
}

// P5.2: Trim of all short lists and places, held against the places of what is no Space.
func TestTrimAll(t *testing.T) {
	each(" a(", 6, func(s string) {
		l := list(s)
		for from := 0; from <= len(l); from++ {
			for to := from; to <= len(l); to++ {
				wantFrom, wantUntil := to, to
				for at := from; at < to; at++ {
					if s[at] == ' ' {
						continue
					}
					wantFrom = min(wantFrom, at)
					wantUntil = at + 1
				}
				if a, b := nest.Trim(l, from, to); a != wantFrom || b != wantUntil {
					t.Fatalf("Trim(%q, %d, %d) = %d, %d, want %d, %d", s, from, to, a, b, wantFrom, wantUntil)
				}
			}
		}
	})
}

// P5.2: places that are none, or not in order.
func TestWrongPlaces(t *testing.T) {
	asked := func(t api.Token) bool { return true }
	for _, s := range []string{"", "a", ",a, ", " (,) "} {
		l := list(s)
		told := ends(t, l)
		n := len(l)
		for _, c := range [][2]int{
			{-1, 0}, {-1, n}, {-1, -1}, {-2, -1}, {math.MinInt, 0}, {math.MinInt, math.MaxInt}, {math.MinInt, math.MinInt},
			{0, n + 1}, {n, n + 1}, {n + 1, n + 1}, {0, math.MaxInt}, {n, math.MaxInt}, {math.MaxInt, math.MaxInt}, {1 << 40, 1 << 41},
			{n, n - 1}, {1, 0}, {n + 1, n}, {n + 1, 0}, {0, -1}, {math.MaxInt, 0}, {0, math.MinInt}, {math.MaxInt, math.MinInt}, {1 << 32, 0},
		} {
			from, to := c[0], c[1]
			if got := nest.Find(l, told, from, to, asked); got != -1 {
				t.Errorf("Find(%q, %d, %d) = %d", s, from, to, got)
			}
			for _, k := range []int{api.Comma, api.Space, api.Open, 0, -1} {
				if got := nest.Split(l, told, from, to, k); len(got) != 0 {
					t.Errorf("Split(%q, %d, %d, %d) = %v", s, from, to, k, got)
				}
			}
			if a, b := nest.Trim(l, from, to); a != from || b != to {
				t.Errorf("Trim(%q, %d, %d) = %d, %d", s, from, to, a, b)
			}
		}
	}
}

// P5.2: of what Ends did not tell of these tokens, Find tells none, and Split nothing.
func TestWrongEnds(t *testing.T) {
	l := list("(,),a")
	for _, told := range [][]int{
		nil, {}, {2}, {2, -1, -1, -1}, {2, -1, -1, -1, -1, -1},
		{0, -1, -1, -1, -1}, {-1, -1, -1, -1, -1}, {-2, -1, -1, -1, -1}, {6, -1, -1, -1, -1}, {1, -1, -1, -1, -1}, {3, -1, -1, -1, -1}, {2, -1, -1, 4, -1}, {2, -1, -1, 3, -1}, {2, -1, -1, 0, -1}, {2, -1, -1, math.MaxInt, -1}, {math.MinInt, math.MinInt, 7, 7, 7},
	} {
		if got := nest.Find(l, told, 0, 5, kind(api.Ident)); got != -1 {
			t.Errorf("Find by %v = %d", told, got)
		}
		if got := nest.Split(l, told, 0, 5, api.Comma); len(got) != 0 {
			t.Errorf("Split by %v = %v", told, got)
		}
	}
}

// Every call ends, and none panics, whatever ends tells, and whatever is asked.
func TestEndsWithAnything(t *testing.T) {
	r := rand.New(rand.NewSource(7))
	odd := []int{math.MinInt, -2, -1, -1, -1, 0, 1, 2, 3, 4, 5, 6, 7, math.MaxInt}
	for range 20000 {
		l := list(random(r, "f([)] ,", r.Intn(7)))
		told := make([]int, r.Intn(8))
		for k := range told {
			told[k] = odd[r.Intn(len(odd))]
		}
		from, to := odd[r.Intn(len(odd))], odd[r.Intn(len(odd))]
		nest.Skip(told, from)
		nest.Find(l, told, from, to, kind(api.Comma))
		nest.Split(l, told, from, to, api.Comma)
		nest.Trim(l, from, to)
	}
	l := list("a,a")
	told := ends(t, l)
	if got := nest.Find(l, told, 0, 3, nil); got != -1 {
		t.Errorf("Find of nothing asked = %d", got)
	}
	if got := nest.Find(nil, nil, 0, 0, nil); got != -1 {
		t.Errorf("Find of nothing = %d", got)
	}
	if got := nest.Find(l, told, 0, 3, func(t api.Token) bool { panic(fmt.Sprint(t)) }); got != -1 {
		t.Errorf("Find of what panics = %d", got)
	}
}

// P5.3: brackets that belong together lie apart, or one within the other one; and no two have one closing.
func TestApart(t *testing.T) {
	try := func(s string) {
		l := list(s)
		told := ends(t, l)
		for a, end := range told {
			if end < 0 {
				continue
			}
			if end <= a || end > len(l) {
				t.Fatalf("Ends(%q) = %v: %d ends at %d", s, told, a, end)
			}
			for b := a + 1; b < min(end, len(l)); b++ {
				if told[b] > end || told[b] == end && end < len(l) {
					t.Fatalf("Ends(%q) = %v: %d and %d cross", s, told, a, b)
				}
			}
			if end < len(l) && told[end] != -1 {
				t.Fatalf("Ends(%q) = %v: %d ends at an opening", s, told, a)
			}
		}
	}
	each("f[)]", 7, try)
	each("({)}a", 5, try)
	r := rand.New(rand.NewSource(8))
	for range 2000 {
		try(random(r, "f([{)]}", 1+r.Intn(63)))
	}
}

// Memory: nothing that is handed in is changed, nor the room behind it, and no answer shares any.
func TestMemory(t *testing.T) {
	whole := list(" f,[a]),a}, (")
	kept := slices.Clone(whole)
	l := whole[:8]
	told := ends(t, l)
	again := ends(t, l)
	room := make([]int, len(told)+3)
	copy(room, told)
	for k := len(told); k < len(room); k++ {
		room[k] = 77
	}
	keptRoom := slices.Clone(room)
	given := room[:len(told)]
	split := nest.Split(l, given, 0, len(l), api.Comma)
	other := nest.Split(l, given, 0, len(l), api.Comma)
	nest.Find(l, given, 0, len(l), kind(api.Semi))
	nest.Trim(l, 0, len(l))
	nest.Skip(given, 1)
	for k := range told {
		told[k] = 99
	}
	_ = append(told, 1, 2, 3)
	for k := range split {
		split[k] = [2]int{5, 5}
	}
	_ = append(split, [2]int{6, 6})
	if !slices.Equal(whole, kept) || !slices.Equal(room, keptRoom) {
		t.Errorf("handed in: %+v, %v", whole, room)
	}
	if !same(again, []int{-1, 6, -1, 5, -1, -1, -1, -1}) || !slices.Equal(other, [][2]int{{0, 7}, {8, 8}}) {
		t.Errorf("answers share: %v, %v", again, other)
	}
}

// P5.1, P5.2: many tokens, more than a sheet may have.
func TestLong(t *testing.T) {
	l := list(times("f([{a, }])) ", 5000))
	told := ends(t, l)
	if got := nest.Split(l, told, 0, len(l), api.Space); len(got) != 5001 {
		t.Errorf("%d parts", len(got))
	}
	if got := nest.Find(l, told, 0, len(l), kind(api.Comma)); got != -1 {
		t.Errorf("Find = %d", got)
	}
	if a, b := nest.Trim(l, 0, len(l)); a != 0 || b != len(l)-1 {
		t.Errorf("Trim = %d, %d", a, b)
	}
}
