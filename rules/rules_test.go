package rules_test

import (
	"math/rand"
	"slices"
	"strings"
	"testing"

	"broadside/api"
	"broadside/print"
	"broadside/rules"
	"broadside/token"
)

// scan is the tokens of a text.
func scan(t testing.TB, s string) []api.Token {
	t.Helper()
	l, e := token.Scan([]byte(s))
	if e != api.OK {
		t.Fatalf("Scan(%q) tells %d", s, e)
	}
	return l
}

// parse is the rules of a sheet.
func parse(t testing.TB, s string) []api.Rule {
	t.Helper()
	l, e := rules.Parse([]byte(s))
	if e != api.OK {
		t.Fatalf("Parse(%.60q) tells %d", s, e)
	}
	return l
}

// told is rules as a short text: each "style" or "page" with its prelude in [ ], its declarations and margin rules in { }; values as print.Print has them, without comments.
func told(l []api.Rule) string {
	var b strings.Builder
	for _, r := range l {
		b.WriteString(map[int]string{api.StyleRule: "style", api.PageRule: "page"}[r.Kind])
		b.WriteString("[" + toldTokens(r.Prelude) + "]{" + toldDecls(r.Decls))
		for _, m := range r.Margins {
			b.WriteString("@" + m.Name + "{" + toldDecls(m.Decls) + "}")
		}
		b.WriteString("}")
	}
	return b.String()
}

func toldDecls(l []api.Decl) string {
	var b strings.Builder
	for _, d := range l {
		b.WriteString(d.Name + "=" + toldTokens(d.Value))
		if d.Important {
			b.WriteString("!!")
		}
		b.WriteString(";")
	}
	return b.String()
}

func toldTokens(l []api.Token) string {
	var b strings.Builder
	for _, t := range l {
		if t.Kind == api.Space {
			b.WriteString(" ")
			continue
		}
		b.WriteString(print.Token(t))
	}
	return b.String()
}

// same tells whether two lists of rules have the same parts, however they are told.
func same(a, b []api.Rule) bool {
	return slices.EqualFunc(a, b, func(a, b api.Rule) bool {
		margins := slices.EqualFunc(a.Margins, b.Margins, func(a, b api.Margin) bool {
			return a.Name == b.Name && sameDecls(a.Decls, b.Decls)
		})
		return margins && a.Kind == b.Kind && slices.Equal(a.Prelude, b.Prelude) && sameDecls(a.Decls, b.Decls)
	})
}

func sameDecls(a, b []api.Decl) bool {
	return slices.EqualFunc(a, b, func(a, b api.Decl) bool {
		return a.Name == b.Name && a.Important == b.Important && slices.Equal(a.Value, b.Value)
	})
}

// piece is a token, and, of an opening, what stands in its brackets.
type piece struct {
	t      api.Token
	inner  []piece
	closer *api.Token // its closing, if it has one
}

// pieces reads tokens as pieces, up to a closing of that text, if there is one: what is there, and what is left from that on.
func pieces(l []api.Token, until string) (all []piece, rest []api.Token) {
	for len(l) > 0 {
		t := l[0]
		if t.Kind == api.Close && t.Text == until {
			break
		}
		l = l[1:]
		p := piece{t: t}
		closers := map[string]string{"(": ")", "[": "]", "{": "}"}
		if closer := closers[t.Text]; t.Kind == api.Func || t.Kind == api.Open {
			if t.Kind == api.Func {
				closer = ")"
			}
			p.inner, l = pieces(l, closer)
			if len(l) > 0 {
				p.closer, l = &l[0], l[1:]
			}
		}
		all = append(all, p)
	}
	return all, l
}

// flat is the tokens of pieces.
func flat(l []piece) []api.Token {
	var all []api.Token
	for _, p := range l {
		all = append(append(all, p.t), flat(p.inner)...)
		if p.closer != nil {
			all = append(all, *p.closer)
		}
	}
	return all
}

// soundPieces tells whether pieces that were scanned are sound.
func soundPieces(l []piece) bool {
	return !slices.ContainsFunc(l, func(p piece) bool {
		opens := p.t.Kind == api.Func || p.t.Kind == api.Open
		slash := p.t.Kind == api.Delim && p.t.Text == `\`
		return p.t.Kind == api.Bad || slash || p.t.Kind == api.Close || opens && p.closer == nil || !soundPieces(p.inner)
	})
}

// trimmed is pieces without Space at both ends.
func trimmed(l []piece) []piece {
	for len(l) > 0 && l[0].t.Kind == api.Space {
		l = l[1:]
	}
	for len(l) > 0 && l[len(l)-1].t.Kind == api.Space {
		l = l[:len(l)-1]
	}
	return l
}

func isBlock(p piece) bool { return p.t.Kind == api.Open && p.t.Text == "{" }
func isSemi(p piece) bool  { return p.t.Kind == api.Semi }
func isEnd(p piece) bool   { return isBlock(p) || isSemi(p) }

// wanted is the rules of pieces, by the chapter's words.
func wanted(l []piece) []api.Rule {
	var all []api.Rule
	for len(l) > 0 {
		at := l[0].t.Kind == api.At
		end := slices.IndexFunc(l, isBlock)
		if at {
			end = slices.IndexFunc(l, isEnd)
		}
		switch {
		case l[0].t.Kind == api.Space:
			end = 0
		case end < 0:
			return all
		case isSemi(l[end]):
		case at:
			if prelude := trimmed(l[1:end]); strings.ToLower(l[0].t.Text) == "page" && soundPieces(prelude) {
				decls, margins := wantedBlock(l[end].inner, true)
				all = append(all, api.Rule{Kind: api.PageRule, Prelude: flat(prelude), Decls: decls, Margins: margins})
			}
		default:
			if prelude := trimmed(l[:end]); soundPieces(prelude) {
				decls, _ := wantedBlock(l[end].inner, false)
				all = append(all, api.Rule{Kind: api.StyleRule, Prelude: flat(prelude), Decls: decls})
			}
		}
		l = l[end+1:]
	}
	return all
}

// wantedBlock is what a block has, by the chapter's words.
func wantedBlock(l []piece, paged bool) (decls []api.Decl, margins []api.Margin) {
	for len(l) > 0 {
		end := slices.IndexFunc(l, isSemi)
		if l[0].t.Kind == api.At {
			if end = slices.IndexFunc(l, isEnd); end < 0 {
				return decls, margins
			}
			name := strings.ToLower(l[0].t.Text)
			if paged && isBlock(l[end]) && slices.Contains(boxes, name) && len(trimmed(l[1:end])) == 0 {
				inner, _ := wantedBlock(l[end].inner, false)
				margins = append(margins, api.Margin{Name: name, Decls: inner})
			}
			l = l[end+1:]
			continue
		}
		if l[0].t.Kind == api.Space {
			end = 0
		}
		if end < 0 {
			end = len(l)
		}
		if d, ok := wantedDecl(trimmed(l[:end])); ok {
			decls = append(decls, d)
		}
		l = l[min(end+1, len(l)):]
	}
	return decls, margins
}

// wantedDecl is the declaration of pieces, by the chapter's words.
func wantedDecl(l []piece) (d api.Decl, ok bool) {
	if len(l) == 0 || l[0].t.Kind != api.Ident {
		return d, false
	}
	d.Name = strings.ToLower(l[0].t.Text)
	l = trimmed(l[1:])
	if len(l) == 0 || l[0].t.Kind != api.Colon {
		return d, false
	}
	l = trimmed(l[1:])
	if n := len(l) - 1; n > 0 && l[n].t.Kind == api.Ident && strings.ToLower(l[n].t.Text) == "important" {
		ahead := trimmed(append([]piece{{t: api.Token{Kind: api.Colon}}}, l[:n]...))[1:]
		if m := len(ahead) - 1; m >= 0 && ahead[m].t.Kind == api.Delim && ahead[m].t.Text == "!" {
			d.Important, l = true, trimmed(ahead[:m])
		}
	}
	d.Value = flat(l)
	return d, soundPieces(l)
}

// boxes is the margin boxes, as the chapter numbers them.
var boxes = strings.Fields("top-left-corner top-left top-center top-right top-right-corner right-top right-middle right-bottom bottom-right-corner bottom-right bottom-center bottom-left bottom-left-corner left-bottom left-middle left-top")

// P6.1: the boxes have their names and numbers, in any letters.
func TestBoxes(t *testing.T) {
	if got := rules.Boxes(); !slices.Equal(got, boxes) || len(got) != 16 {
		t.Errorf("Boxes() = %q", got)
	}
	for at, name := range boxes {
		mixed := strings.ToUpper(name[:1]) + name[1:]
		for _, s := range []string{name, strings.ToUpper(name), mixed} {
			if got := rules.Box(s); got != at {
				t.Errorf("Box(%q) = %d, want %d", s, got, at)
			}
		}
		for _, s := range []string{" " + name, name + " ", "@" + name, name + "-", name[1:], name[:len(name)-1], name + "\x00"} {
			if got := rules.Box(s); got != slices.Index(boxes, s) {
				t.Errorf("Box(%q) = %d", s, got)
			}
		}
	}
	for _, s := range []string{"", "top", "left", "corner", "top-middle", "left-center", "top-top", "page", "\xff", "top-\u212aeft", strings.Repeat("top-left", 1000)} {
		if got := rules.Box(s); got != -1 {
			t.Errorf("Box(%q) = %d, want -1", s, got)
		}
	}
}

// P6.1: what is handed out of the boxes is the caller's own.
func TestBoxesAreNew(t *testing.T) {
	l := rules.Boxes()
	clear(l)
	clear(l[len(l):cap(l)])
	if got := rules.Boxes(); !slices.Equal(got, boxes) {
		t.Errorf("Boxes() = %q, after those handed out were changed", got)
	}
}

// P6.1: Sound, of what is scanned and of what could not be.
func TestSound(t *testing.T) {
	for s, want := range map[string]bool{
		"": true, " ": true, "a": true, "a b;c:d,e!f": true, "f(x[y{z}])": true, "{;}": true, "()[]{}": true, "'x'": true, "@a #b 1 2% 3em": true,
		"'x\n": false, "a 'x\n b": false, "f('x\n)": false, `\`: false, "a\\\nb": false, "(\\\n)": false,
		")": false, "]": false, "}": false, "a)": false, "())": false, "([)]": false, "(])": false, "([)": false, "{(})": false,
		"(": false, "[": false, "{": false, "f(": false, "(()": false, "()(": false, "[(])": false,
	} {
		if got := rules.Sound(scan(t, s)); got != want {
			t.Errorf("Sound of %q is %v", s, got)
		}
	}
	for _, l := range [][]api.Token{
		{{Kind: 0}}, {{Kind: 17}}, {{Kind: -1}}, {{Kind: api.Ident}}, {{Kind: api.Ident, Text: "\xff"}}, {{Kind: api.Ident, Text: "a", N: 1}},
		{{Kind: api.Space}, {Kind: api.Space}}, {{Kind: api.Space, Text: " "}}, {{Kind: api.Number, N: api.MaxFixed + 1}}, {{Kind: api.Delim, Text: "a"}},
		{{Kind: api.Open, Text: "<"}}, {{Kind: api.Open, Text: "("}, {Kind: api.Close, Text: ">"}, {Kind: api.Close, Text: ")"}}, {{Kind: api.Bad, Text: "x"}},
	} {
		if rules.Sound(l) {
			t.Errorf("Sound of %+v", l)
		}
	}
	if !rules.Sound(nil) {
		t.Error("Sound(nil) is false")
	}
}

// P6.1: Sound goes as deep, and as far, as nest.Ends and print.Right do.
func TestSoundLimits(t *testing.T) {
	deep := func(n int) []api.Token {
		return scan(t, strings.Repeat("(", n)+strings.Repeat(")", n))
	}
	if !rules.Sound(deep(64)) || rules.Sound(deep(65)) {
		t.Error("Sound of 64 brackets, or of 65")
	}
	long := slices.Repeat([]api.Token{{Kind: api.Comma}}, api.MaxTokens+1)
	if !rules.Sound(long[:api.MaxTokens]) || rules.Sound(long) {
		t.Error("Sound of 2^14 tokens, or of one more")
	}
}

// P6.1: Sound of all short lists of these tokens, held against their pieces.
func TestSoundAll(t *testing.T) {
	each([]string{"(", "[", "{", "f(", ")", "]", "}", "a", "'x\n"}, 5, func(s string) {
		l := scan(t, s)
		p, _ := pieces(l, "none")
		if got, want := rules.Sound(l), soundPieces(p); got != want {
			t.Fatalf("Sound of %q is %v", s, got)
		}
	})
}

// each calls try with all texts of up to so many parts.
func each(parts []string, most int, try func(s string)) {
	var grow func(s string, left int)
	grow = func(s string, left int) {
		try(s)
		for _, p := range parts {
			if left > 0 {
				grow(s+p, left-1)
			}
		}
	}
	grow("", most)
}

// P6.1: what a sheet has, at the edges that the chapter names.
func TestParse(t *testing.T) {
	for s, want := range map[string]string{
		"": "", " /*x*/\n ": "", "/*a{b:c}*/": "",
		"a{b:c!important;d}@x y;@page :left{margin:1em;@top-left{content:'x'}}": `style[a]{b=c!!;}page[:left]{margin=1\65 m;@top-left{content="x";}}`,
		// an At with a Semi, an Open {, with neither; of another name, with its block
		"@x;a{}": "style[a]{}", "@x y(;)z;a{}": "style[a]{}", "@page;a{}": "style[a]{}", "@page :left;{}": "style[]{}",
		"@x{b:c}a{}": "style[a]{}", "@x y{;z{}}a{}": "style[a]{}", "@x{": "", "@x y": "", "@x": "", "a{}@page": "style[a]{}", "@x[;]{;}a{}": "style[a]{}",
		"@x)}];a{}": "style[a]{}", "@x a{}b{}": "style[b]{}", "@top-left{a:b}": "", "@x({)}": "",
		// page rules
		"@page{}": "page[]{}", "@page {}": "page[]{}", "@page/**/{}": "page[]{}", "@page  a :left /**/ {}": "page[a :left]{}", "@PAge{}": "page[]{}", `@\50 age{}`: "page[]{}",
		"@page a,b{}": "page[a,b]{}", "@page (;{}){}": "page[(;{})]{}", "@page @x{}": "page[@x]{}", "@page:a{}b{}": "page[:a]{}style[b]{}",
		"@page ){a:b}c{}": "style[c]{}", "@page [)]{}c{}": "style[c]{}", "@page 'x\n{}c{}": "style[c]{}", "@page \\\n{}c{}": "style[c]{}", "@page ({}c{}": "", "@pages{}": "", "@pag{}": "",
		"@page-x{}a{}": "style[a]{}",
		// style rules
		"a{}": "style[a]{}", "{}": "style[]{}", " {}": "style[]{}", "a b>c , .d{}": "style[a b>c , .d]{}", "A{}": "style[A]{}", "a;b{}": "style[a;b]{}", ";{}": "style[;]{}", "a @x;b{}": "style[a @x;b]{}", "a@page{}": "style[a@page]{}",
		"a[b={c}]{}": "style[a[b={c}]]{}", "f({)}{}": "", "f({}){}": "style[f({})]{}", "a/**/b{}": "style[ab]{}", "a{}b{}": "style[a]{}style[b]{}", "a{} b{} ": "style[a]{}style[b]{}",
		")a{}b{}": "style[b]{}", "a]{b:c}d{}": "style[d]{}", "}a{}b{}": "style[b]{}", "'x\n{b:c}d{}": "style[d]{}", "a\\\n{b:c}d{}": "style[d]{}", "a{}}b{}c{}": "style[a]{}style[c]{}", "<!--a{}-->b{}": "style[<!--a]{}style[-->b]{}",
		// without an Open {, and not closed
		"a": "", "a;b:c": "", "a{}b": "style[a]{}", "a({}": "", "a[{}]": "", "a{": "style[a]{}", "a{b": "style[a]{}", "a{b:c": "style[a]{b=c;}", "a{b:c!important": "style[a]{b=c!!;}", "a{b:c(d}": "style[a]{}", "a{b:{c}": "style[a]{b={c};}", "a{b:{c": "style[a]{}",
		"a{b:c;d:(e;f:g}h{}": "style[a]{b=c;}", "@page{@top-left{a:b": "page[]{@top-left{a=b;}}", "@page{a:b": "page[]{a=b;}", "a{b:'x": `style[a]{b="x";}`, "a{b:'x\n": "style[a]{}", "a{b:'x\n}c{d:e}": "style[a]{}style[c]{d=e;}",
	} {
		if got := told(parse(t, s)); got != want {
			t.Errorf("Parse(%q) is %s, want %s", s, got, want)
		}
	}
}

// P6.1: what a block has, at the edges that the chapter names.
func TestParseBlock(t *testing.T) {
	for s, want := range map[string]string{
		// declarations
		"a{b:c}": "b=c;", "a{;; b:c;; d:e ;}": "b=c;d=e;", "a{b :c}": "b=c;", "a{b: c}": "b=c;", "a{ b\n:\tc }": "b=c;", "a{b/**/:/**/c}": "b=c;", "a{b:}": "b=;", "a{b: }": "b=;", "a{b:;c:d}": "b=;c=d;", "a{b:c:d}": "b=c:d;", "a{b::}": "b=:;",
		"a{B:C}": "b=C;", "a{\u00c4B:c}": "\u00c4b=c;", `a{\42:c}`: "b=c;", "a{b:c d , e}": "b=c d , e;", "a{b:c;b:d}": "b=c;b=d;", "a{--x:y}": "--x=y;",
		"a{b}": "", "a{b c:d}": "", "a{:c}": "", "a{b;c:d}": "c=d;", "a{1:c}": "", "a{b(:c)}": "", "a{b();c:d}": "c=d;", "a{'b':c}": "", "a{#b:c}": "", "a{b c}": "", "a{,b:c;d:e}": "d=e;", "a{{b:c}d:e}": "", "a{{b:c};d:e}": "d=e;", "a{b{c:d}e:f;g:h}": "g=h;", "a{b :{c:d;e:f};g:h}": "b={c:d;e:f};g=h;",
		"a{)b:c;d:e}": "d=e;", "a{];d:e}": "d=e;", "a{!important}": "", "a{b!important}": "",
		// values that are not sound, and such as are
		"a{b:'x\n;c:d}": "c=d;", "a{b:c\\\n;d:e}": "d=e;", "a{b:c);d:e}": "d=e;", "a{b:];d:e}": "d=e;", "a{b:([)];d:e}": "", "a{b:(c;d:e}": "", "a{b:[(];d:e}": "",
		"a{b:f(;,{;})[;]}": "b=f(;,{;})[;];", "a{b:@x;c:d}": "b=@x;c=d;", "a{b:\\;c;d:e}": `b=\3b c;d=e;`, "a{b:'x\n!important;c:d}": "c=d;", "a{b:)!important;c:d}": "c=d;", "a{b:(!important;c:d}": "",
		// important
		"a{b:c!important}": "b=c!!;", "a{b:c ! important }": "b=c!!;", "a{b:c!/**/important}": "b=c!!;", "a{b:c!IMPortant}": "b=c!!;", `a{b:c!\49mportant}`: "b=c!!;", "a{b:!important}": "b=!!;", "a{b: ! important ;}": "b=!!;", "a{b:important}": "b=important;", "a{b:!}": "b=!;", "a{b:c!}": "b=c!;",
		"a{b:c important}": "b=c important;", "a{b:c!important d}": "b=c!important d;", "a{b:c!importants}": "b=c!importants;", "a{b:c!!important}": "b=c!!!;", "a{b:c!important!important}": "b=c!important!!;", "a{b:c !important !important}": "b=c !important!!;", "a{b:(c!important)}": "b=(c!important);", "a{b:c?important}": "b=c?important;", "a{b:c!'important'}": `b=c!"important";`, "a{b:c!;important:d}": "b=c!;important=d;", "a{b:c!important!}": "b=c!important!;", "a{b:c!,important}": "b=c!,important;",
		// an At in a style rule
		"a{@x;b:c}": "b=c;", "a{@x{d:e}b:c}": "b=c;", "a{b:c;@top-left{d:e}f:g}": "b=c;f=g;", "a{@x b:c}": "", "a{@x}": "", "a{b:c;@x d": "b=c;", "a{@x({)};b:c}": "", "a{@x[;]{;}b:c}": "b=c;", "a{b:c @top-left{d:e}}": "b=c @top-left{d:e};", "a{@x)];b:c}": "b=c;",
		// and in a page rule
		"@page{@top-left{a:b}}": "@top-left{a=b;}", "@page{@TOP-Left{A:B}}": "@top-left{a=B;}", `@page{@\54op-left{a:b}}`: "@top-left{a=b;}", "@page{@top-left {a:b}}": "@top-left{a=b;}", "@page{@top-left/**/ /**/{}}": "@top-left{}", "@page{@left-top{}@top-left{}@left-top{a:b}}": "@left-top{}@top-left{}@left-top{a=b;}",
		"@page{a:b;@top-left{c:d}e:f}": "a=b;e=f;@top-left{c=d;}", "@page{@top-left{c:d};a:b}": "a=b;@top-left{c=d;}", "@page{@x{c:d}a:b}": "a=b;", "@page{@x;a:b}": "a=b;", "@page{@page{c:d}a:b}": "a=b;", "@page{@top{c:d}a:b}": "a=b;", "@page{@top-left;a:b}": "a=b;", "@page{@top-left x{c:d}a:b}": "a=b;", "@page{@top-left (){c:d}a:b}": "a=b;", "@page{@top-left :{c:d}a:b}": "a=b;", "@page{@top-left a:b}": "", "@page{a:b;@top-left}": "a=b;", "@page{@top-left({})c:d}": "", "@page{@top-left){}a:b}": "a=b;",
		"@page{a @top-left{c:d};e:f}": "e=f;", "@page{top-left{c:d};e:f}": "e=f;",
		// and in a margin rule
		"@page{@top-left{@top-right{a:b}c:d}}": "@top-left{c=d;}", "@page{@top-left{@x;c:d}}": "@top-left{c=d;}", "@page{@top-left{@x c:d}a:b}": "a=b;@top-left{}", "@page{@top-left{;c:d!important; e}}": "@top-left{c=d!!;}", "@page{@top-left{a:b:}}": "@top-left{a=b:;}",
	} {
		l := parse(t, s)
		if len(l) != 1 {
			t.Errorf("Parse(%q) is %s", s, told(l))
			continue
		}
		got := told(l)
		got = got[strings.Index(got, "{")+1 : len(got)-1]
		if got != want {
			t.Errorf("Parse(%q) is %s, want %s", s, got, want)
		}
	}
}

// P6.1: the parts of a rule are told as they are, and nothing beside them.
func TestParseParts(t *testing.T) {
	got := parse(t, " @PAGE  x:left {A : 1.5em 'q' !IMPORTANT;@Top-Left{b:url(c)}}D>e{}")
	want := []api.Rule{
		{
			Kind:    api.PageRule,
			Prelude: []api.Token{{Kind: api.Ident, Text: "x"}, {Kind: api.Colon}, {Kind: api.Ident, Text: "left"}},
			Decls:   []api.Decl{{Name: "a", Value: []api.Token{{Kind: api.Dim, Text: "em", N: 1500}, {Kind: api.Space}, {Kind: api.String, Text: "q"}}, Important: true}},
			Margins: []api.Margin{{Name: "top-left", Decls: []api.Decl{{Name: "b", Value: []api.Token{{Kind: api.Func, Text: "url"}, {Kind: api.Ident, Text: "c"}, {Kind: api.Close, Text: ")"}}}}}},
		},
		{Kind: api.StyleRule, Prelude: []api.Token{{Kind: api.Ident, Text: "D"}, {Kind: api.Delim, Text: ">"}, {Kind: api.Ident, Text: "e"}}},
	}
	if !same(got, want) {
		t.Errorf("Parse tells %+v, want %+v", got, want)
	}
}

// P6.1: all short sheets of these parts, and many long ones, held against their pieces.
func TestParseAll(t *testing.T) {
	try := func(s string) {
		l := scan(t, s)
		p, _ := pieces(l, "none")
		got, e := rules.Parse([]byte(s))
		if want := wanted(p); e != api.OK || !same(got, want) {
			t.Fatalf("Parse(%q) is %s, %d, want %s", s, told(got), e, told(want))
		}
	}
	each([]string{"@page", "a", " ", ":", ";", "{", "}", "(", ")", "!important"}, 5, try)
	each([]string{"@page{", "@top-left", "a", ":", ";", "{", "}", "!", "important", " "}, 5, try)
	r := rand.New(rand.NewSource(6))
	for range 60000 {
		try(random(r, r.Intn(40)))
	}
}

// random is a sheet of so many parts.
func random(r *rand.Rand, n int) string {
	parts := strings.Fields("@page @PAGE @x @top-left @Left-Top @top a B important ! !important : ; , { } { } ( ) [ ] f( 'x' 'y\n a:b; {a:b} @page{ 1em #c \\ \\\n \\; /**/ < 2% _ _ _ a{ b:c")
	var b strings.Builder
	for range n {
		part := parts[r.Intn(len(parts))]
		switch part {
		case "_":
			part = " "
		case `\n`:
			part = "\\\n"
		}
		b.WriteString(part)
	}
	return b.String()
}

// P6.1: any bytes are a sheet.
func TestParseAnyBytes(t *testing.T) {
	r := rand.New(rand.NewSource(7))
	for range 20000 {
		b := make([]byte, r.Intn(60))
		for k := range b {
			b[k] = byte(r.Intn(256))
			if r.Intn(2) == 0 {
				b[k] = "{}();:@!\"'\\ ab\n"[r.Intn(15)]
			}
		}
		got, e := rules.Parse(b)
		l, _ := token.Scan(b)
		p, _ := pieces(l, "none")
		if want := wanted(p); e != api.OK || !same(got, want) {
			t.Fatalf("Parse(%q) is %s, %d, want %s", b, told(got), e, told(want))
		}
	}
}

// P6.1: the errors, and which of them comes first.
func TestParseLimits(t *testing.T) {
	for name, c := range map[string]struct {
		sheet string
		rules int
		want  api.Errno
	}{
		"just as many rules":          {strings.Repeat("a{}", 1024), 1024, api.OK},
		"one rule more":               {strings.Repeat("a{}", 1025), 0, api.ErrLong},
		"one page rule more":          {strings.Repeat("a{}", 1024) + "@page{}", 0, api.ErrLong},
		"what is dropped is no rule":  {strings.Repeat("a{}", 1024) + "@x{}){}a", 1024, api.OK},
		"margin rules are the page's": {"@page{" + strings.Repeat("@top-left{}", 1025) + "}", 1, api.OK},
		"just as deep":                {"a{b:" + strings.Repeat("(", 63), 1, api.OK},
		"one bracket deeper":          {"a{b:" + strings.Repeat("(", 64), 0, api.ErrDeep},
		"deep in what is dropped":     {"@x " + strings.Repeat("[", 65), 0, api.ErrDeep},
		"too deep, and too many":      {strings.Repeat("a{}", 1025) + strings.Repeat("(", 65), 0, api.ErrDeep},
		"just as many bytes":          {"a{}" + strings.Repeat("b", api.MaxBytes-3), 1, api.OK},
		"one byte more":               {"a{}" + strings.Repeat("b", api.MaxBytes-2), 0, api.ErrLong},
		"just as many tokens":         {"a{}" + strings.Repeat(";", api.MaxTokens-3), 1, api.OK},
		"one token more":              {"a{}" + strings.Repeat(";", api.MaxTokens-2), 0, api.ErrLong},
		"too long, and too deep":      {strings.Repeat("(", api.MaxTokens+1), 0, api.ErrLong},
	} {
		got, e := rules.Parse([]byte(c.sheet))
		if e != c.want || len(got) != c.rules {
			t.Errorf("%s: %d rules, %d", name, len(got), e)
		}
	}
	if got, e := rules.Parse(nil); len(got) > 0 || e != api.OK {
		t.Errorf("Parse(nil) is %s, %d", told(got), e)
	}
}

// P6.1: lists of rules that differ in one part each are not the same.
func TestSame(t *testing.T) {
	base := func() []api.Rule { return parse(t, "@page x{a:b c;d:e!important;@top-left{f:g}@top-right{h:i}}j{k:l}") }
	if !rules.Same(base(), base()) || !rules.Same(nil, nil) || !rules.Same(nil, []api.Rule{}) {
		t.Error("Same of the same is false")
	}
	empty := []api.Rule{{Prelude: []api.Token{}, Decls: []api.Decl{{Value: []api.Token{}}}, Margins: []api.Margin{{Decls: []api.Decl{}}}}}
	if !rules.Same(empty, []api.Rule{{Decls: []api.Decl{{}}, Margins: []api.Margin{{}}}}) {
		t.Error("Same of nil and empty lists is false")
	}
	for name, change := range map[string]func(l []api.Rule) []api.Rule{
		"one less":              func(l []api.Rule) []api.Rule { return l[:1] },
		"none":                  func(l []api.Rule) []api.Rule { return nil },
		"order":                 func(l []api.Rule) []api.Rule { return []api.Rule{l[1], l[0]} },
		"kind":                  func(l []api.Rule) []api.Rule { l[0].Kind = api.StyleRule; return l },
		"prelude's kind":        func(l []api.Rule) []api.Rule { l[0].Prelude[0].Kind = api.At; return l },
		"prelude's text":        func(l []api.Rule) []api.Rule { l[0].Prelude[0].Text = "y"; return l },
		"prelude's number":      func(l []api.Rule) []api.Rule { l[0].Prelude[0].N = 1; return l },
		"prelude's length":      func(l []api.Rule) []api.Rule { l[0].Prelude = nil; return l },
		"prelude's letters":     func(l []api.Rule) []api.Rule { l[0].Prelude[0].Text = "X"; return l },
		"declaration's name":    func(l []api.Rule) []api.Rule { l[0].Decls[0].Name = "z"; return l },
		"declaration's value":   func(l []api.Rule) []api.Rule { l[0].Decls[0].Value[2].Text = "z"; return l },
		"value's length":        func(l []api.Rule) []api.Rule { l[0].Decls[0].Value = l[0].Decls[0].Value[:2]; return l },
		"important":             func(l []api.Rule) []api.Rule { l[0].Decls[0].Important = true; return l },
		"not important":         func(l []api.Rule) []api.Rule { l[0].Decls[1].Important = false; return l },
		"declarations' order":   func(l []api.Rule) []api.Rule { slices.Reverse(l[0].Decls); return l },
		"fewer declarations":    func(l []api.Rule) []api.Rule { l[0].Decls = l[0].Decls[:1]; return l },
		"margin's name":         func(l []api.Rule) []api.Rule { l[0].Margins[0].Name = "top-center"; return l },
		"margin's declaration":  func(l []api.Rule) []api.Rule { l[0].Margins[1].Decls[0].Name = "z"; return l },
		"margin's value":        func(l []api.Rule) []api.Rule { l[0].Margins[1].Decls[0].Value[0].Text = "z"; return l },
		"margin's importance":   func(l []api.Rule) []api.Rule { l[0].Margins[1].Decls[0].Important = true; return l },
		"margin's declarations": func(l []api.Rule) []api.Rule { l[0].Margins[0].Decls = nil; return l },
		"fewer margins":         func(l []api.Rule) []api.Rule { l[0].Margins = l[0].Margins[:1]; return l },
		"margins' order":        func(l []api.Rule) []api.Rule { slices.Reverse(l[0].Margins); return l },
		"the last rule":         func(l []api.Rule) []api.Rule { l[1].Decls[0].Value[0].Kind = api.String; return l },
		"one more": func(l []api.Rule) []api.Rule {
			return append(l, api.Rule{})
		},
	} {
		changed := change(base())
		if rules.Same(base(), changed) || rules.Same(changed, base()) {
			t.Errorf("Same, but for %s", name)
		}
		if !rules.Same(changed, changed) {
			t.Errorf("with another %s: not the same as itself", name)
		}
	}
}

// P6.2: rules as tokens, and as text.
func TestTokens(t *testing.T) {
	for s, want := range map[string]string{
		"": "", "a{}": "a{}", "{}": "{}", "@page{}": "@page {}", "@PAGE x:left{}": "@page x:left{}",
		"a { B : c ; d:e ! important }": "a{b:c;d:e!important;}", "a{b:}": "a{b:;}", "a{b:!important}": "a{b:!important;}", "a{b:c!important!important}": "a{b:c!important!important;}",
		"@page{@top-left{a:b}c:d;@left-top{}}": "@page {c:d;@top-left{a:b;}@left-top{}}", "a{b:c}d e{}@page{f:g}": "a{b:c;}d e{}@page {f:g;}",
		"@page (){@top-left{a:b!important;c:f(;)}}": "@page (){@top-left{a:b!important;c:f(;);}}",
	} {
		l := parse(t, s)
		wanted := scan(t, want)
		if got := rules.Tokens(l); !slices.Equal(got, wanted) {
			t.Errorf("Tokens of %s are %+v, want %+v", told(l), got, wanted)
		}
		if got := rules.Print(l); got != print.Print(wanted) {
			t.Errorf("Print of %s is %q, want %q", told(l), got, print.Print(wanted))
		}
		if !rules.Right(l) {
			t.Errorf("Right of %s is false", told(l))
		}
	}
	if got, want := rules.Print(parse(t, "@page a{b:c!important}")), "@page\na/**/{b:c/**/!/**/important;}"; got != want {
		t.Errorf("Print is %q, want %q", got, want)
	}
}

// ident is the token of a name.
func ident(name string) api.Token {
	return api.Token{Kind: api.Ident, Text: name}
}

// fine is rules that may be, made anew.
func fine() []api.Rule {
	x := func() []api.Token { return []api.Token{ident("x")} }
	return []api.Rule{
		{Kind: api.StyleRule, Prelude: x(), Decls: []api.Decl{{Name: "a", Value: x()}, {Name: "b", Value: x(), Important: true}}},
		{Kind: api.PageRule, Prelude: x(), Decls: []api.Decl{{Name: "a", Value: x()}}, Margins: []api.Margin{{Name: "top-left", Decls: []api.Decl{{Name: "a", Value: x()}}}}},
	}
}

// changes is what is done to rules that may be, each with what it is of.
type changes map[string]func(l []api.Rule)

// hold holds against want what Right tells of rules that are changed, and of others that Tokens and Print tell nothing.
func (c changes) hold(t *testing.T, want bool) {
	for name, change := range c {
		l := fine()
		change(l)
		if got := rules.Right(l); got != want {
			t.Errorf("%s: Right of %s is %v", name, told(l), got)
		}
		if tokens, text := rules.Tokens(l), rules.Print(l); (len(tokens) > 0) != want || (text != "") != want {
			t.Errorf("%s: Tokens of %s are %+v, Print %q", name, told(l), tokens, text)
		}
	}
}

// P6.2: rules that may be, near to those that may not.
func TestRight(t *testing.T) {
	changes{
		"as they are":               func(l []api.Rule) {},
		"empty preludes":            func(l []api.Rule) { l[0].Prelude, l[1].Prelude = nil, []api.Token{} },
		"no declarations":           func(l []api.Rule) { l[0].Decls, l[1].Decls, l[1].Margins = nil, []api.Decl{}, []api.Margin{} },
		"Semi in a style's":         func(l []api.Rule) { l[0].Prelude = scan(t, "a;b") },
		"Semi first in a style's":   func(l []api.Rule) { l[0].Prelude = scan(t, ";@x") },
		"{ and Semi in brackets":    func(l []api.Rule) { l[0].Prelude, l[1].Prelude = scan(t, "f({;})"), scan(t, "[{;}](;)") },
		"an At first in a page's":   func(l []api.Rule) { l[1].Prelude = scan(t, "@x y") },
		"an At, not first":          func(l []api.Rule) { l[0].Prelude = scan(t, "x @y") },
		"great letters in preludes": func(l []api.Rule) { l[0].Prelude = scan(t, "X") },
		"Space within":              func(l []api.Rule) { l[0].Prelude, l[0].Decls[0].Value = scan(t, "x y"), scan(t, "x y") },
		"an empty value":            func(l []api.Rule) { l[0].Decls[0].Value, l[0].Decls[1].Value = nil, nil },
		"great letters in values":   func(l []api.Rule) { l[0].Decls[0].Value = scan(t, "X") },
		"a block as a value":        func(l []api.Rule) { l[0].Decls[0].Value = scan(t, "{a:b;c}") },
		"a Semi in brackets":        func(l []api.Rule) { l[0].Decls[0].Value = scan(t, "f(;)") },
		"an At in a value":          func(l []api.Rule) { l[0].Decls[0].Value = scan(t, "@x") },
		"important twice":           func(l []api.Rule) { l[0].Decls[1].Value = scan(t, "x!important") },
		"important, alone twice":    func(l []api.Rule) { l[0].Decls[1].Value = scan(t, "! Important") },
		"important, not behind a !": func(l []api.Rule) { l[0].Decls[0].Value = scan(t, "important") },
		"important, behind a text":  func(l []api.Rule) { l[0].Decls[0].Value = scan(t, "'!'important") },
		"a ! at the end":            func(l []api.Rule) { l[0].Decls[0].Value, l[0].Decls[1].Value = scan(t, "x!"), scan(t, "x!") },
		"important, in brackets":    func(l []api.Rule) { l[0].Decls[0].Value = scan(t, "(!important)") },
		"important, in the middle":  func(l []api.Rule) { l[0].Decls[0].Value = scan(t, "!important x") },
		"names of any letters":      func(l []api.Rule) { l[0].Decls[0].Name = "1 \u00c4;{}!" },
		"a margin rule, twice":      func(l []api.Rule) { l[1].Margins = append(l[1].Margins, l[1].Margins[0]) },
		"an empty margin rule":      func(l []api.Rule) { l[1].Margins[0] = api.Margin{Name: "left-top"} },
	}.hold(t, true)
	if !rules.Right(nil) || !rules.Right([]api.Rule{}) {
		t.Error("Right of no rules is false")
	}
}

// P6.2: rules that may not be.
func TestRightNot(t *testing.T) {
	value := func(s string) func(l []api.Rule) {
		return func(l []api.Rule) { l[1].Margins[0].Decls[0].Value = scan(t, s) }
	}
	changes{
		"no kind":           func(l []api.Rule) { l[0].Kind = 0 },
		"another kind":      func(l []api.Rule) { l[1].Kind = 3 },
		"a negative kind":   func(l []api.Rule) { l[1].Kind = -1 },
		"a style's margins": func(l []api.Rule) { l[1].Kind = api.StyleRule },
		"a style's margin":  func(l []api.Rule) { l[0].Margins = []api.Margin{{Name: "top-left"}} },
		"a style's At":      func(l []api.Rule) { l[0].Prelude = scan(t, "@x") },
		"a style's page":    func(l []api.Rule) { l[0].Prelude = scan(t, "@page x") },
		"Space ahead":       func(l []api.Rule) { l[0].Prelude = scan(t, " x") },
		"Space behind":      func(l []api.Rule) { l[0].Prelude = scan(t, "x ") },
		"Space alone":       func(l []api.Rule) { l[0].Prelude = scan(t, " ") },
		"a page's Space":    func(l []api.Rule) { l[1].Prelude = scan(t, "x ") },
		"a page's blank":    func(l []api.Rule) { l[1].Prelude = scan(t, " ") },
		"a {":               func(l []api.Rule) { l[0].Prelude = scan(t, "x{}") },
		"a { first":         func(l []api.Rule) { l[0].Prelude = scan(t, "{}") },
		"a page's {":        func(l []api.Rule) { l[1].Prelude = scan(t, "x{}y") },
		"a page's Semi":     func(l []api.Rule) { l[1].Prelude = scan(t, "x;y") },
		"a closing":         func(l []api.Rule) { l[0].Prelude = scan(t, "x)") },
		"a page's opening":  func(l []api.Rule) { l[1].Prelude = scan(t, "(") },
		"a Bad":             func(l []api.Rule) { l[0].Prelude = scan(t, "'x\ny") },
		"a page's Delim":    func(l []api.Rule) { l[1].Prelude = scan(t, `\`) },
		"no token":          func(l []api.Rule) { l[0].Prelude = []api.Token{{}} },
		"two Space": func(l []api.Rule) {
			l[0].Prelude = []api.Token{ident("x"), {Kind: api.Space}, {Kind: api.Space}, ident("x")}
		},
		"no name":           func(l []api.Rule) { l[0].Decls[0].Name = "" },
		"a name of bytes":   func(l []api.Rule) { l[0].Decls[1].Name = "\xff" },
		"a name of 0":       func(l []api.Rule) { l[1].Decls[0].Name = "a\x00" },
		"a great letter":    func(l []api.Rule) { l[0].Decls[0].Name = "aB" },
		"a margin's names":  func(l []api.Rule) { l[1].Margins[0].Decls[0].Name = "A" },
		"no box":            func(l []api.Rule) { l[1].Margins[0].Name = "top" },
		"an empty box":      func(l []api.Rule) { l[1].Margins[0].Name = "" },
		"a great box":       func(l []api.Rule) { l[1].Margins[0].Name = "Top-left" },
		"the last box":      func(l []api.Rule) { l[1].Margins = append(l[1].Margins, api.Margin{Name: "x"}) },
		"value's Space":     value(" x"),
		"value, Space last": value("x "),
		"value of Space":    value(" "),
		"value's Semi":      value("x;"),
		"Semi alone":        value(";"),
		"value's Bad":       value("'x\ny"),
		"value's Delim":     value("x\\\ny"),
		"value's closing":   value("x}"),
		"value's opening":   value("{x"),
		"value's brackets":  value("([)]"),
		"important":         value("x!important"),
		"important, Space":  value("x ! important"),
		"important, great":  value("x!IMPORTANT"),
		"important, alone":  value("!important"),
		"value of no token": func(l []api.Rule) { l[0].Decls[0].Value = []api.Token{{Kind: 99}} },
		"a page's value":    func(l []api.Rule) { l[1].Decls[0].Value = scan(t, ";") },
		"a style's value":   func(l []api.Rule) { l[0].Decls[0].Value = scan(t, "x;y") },
	}.hold(t, false)
}

// P6.2: how many rules, tokens, bytes and brackets there may be.
func TestRightLimits(t *testing.T) {
	many := func(n int, r api.Rule) []api.Rule { return slices.Repeat([]api.Rule{r}, n) }
	empty := api.Rule{Kind: api.StyleRule}
	decls := func(n int) []api.Rule { // of 3 tokens each, within 2
		return []api.Rule{{Kind: api.StyleRule, Decls: slices.Repeat([]api.Decl{{Name: "a"}}, n)}}
	}
	deep := func(n int) []api.Token { return scan(t, strings.Repeat("[", n)+strings.Repeat("]", n)) }
	named := func(n int) []api.Rule { // of n bytes, and 4 others
		return []api.Rule{{Kind: api.StyleRule, Decls: []api.Decl{{Name: strings.Repeat("a", n)}}}}
	}
	escaped := func(n int) []api.Rule {
		return []api.Rule{{Kind: api.StyleRule, Decls: []api.Decl{{Name: strings.Repeat(" ", n)}}}}
	}
	for name, c := range map[string]struct {
		l    []api.Rule
		want bool
	}{
		"just as many rules":      {many(1024, empty), true},
		"one rule more":           {many(1025, empty), false},
		"just as many tokens":     {append(decls(5460), empty), true},
		"one token more":          {[]api.Rule{{Kind: api.StyleRule, Prelude: []api.Token{ident("a")}, Decls: decls(5460)[0].Decls}, empty}, false},
		"many tokens more":        {decls(1 << 20), false},
		"just as many bytes":      {named(api.MaxBytes - 4), true},
		"one byte more":           {named(api.MaxBytes - 3), false},
		"many bytes more":         {many(1000, named(1 << 21)[0]), false},
		"bytes of escapes":        {escaped((api.MaxBytes - 4) / 4), true},
		"more bytes of escapes":   {escaped((api.MaxBytes-4)/4 + 1), false},
		"a prelude, just as deep": {[]api.Rule{{Kind: api.StyleRule, Prelude: deep(64)}, {Kind: api.PageRule, Prelude: deep(64)}}, true},
		"a prelude, too deep":     {[]api.Rule{{Kind: api.PageRule, Prelude: deep(65)}}, false},
		"a value, just as deep":   {[]api.Rule{{Kind: api.StyleRule, Decls: []api.Decl{{Name: "a", Value: deep(63)}}}}, true},
		"a value, too deep":       {[]api.Rule{{Kind: api.StyleRule, Decls: []api.Decl{{Name: "a", Value: deep(64)}}}}, false},
		"a margin's value":        {[]api.Rule{{Kind: api.PageRule, Margins: []api.Margin{{Name: "top-left", Decls: []api.Decl{{Name: "a", Value: deep(62)}}}}}}, true},
		"a margin's, too deep":    {[]api.Rule{{Kind: api.PageRule, Margins: []api.Margin{{Name: "top-left", Decls: []api.Decl{{Name: "a", Value: deep(63)}}}}}}, false},
	} {
		if got := rules.Right(c.l); got != c.want {
			t.Errorf("%s: Right is %v", name, got)
		}
		text := rules.Print(c.l)
		if (text != "") != c.want || (len(rules.Tokens(c.l)) > 0) != c.want {
			t.Errorf("%s: Print is of %d bytes, Tokens %d", name, len(text), len(rules.Tokens(c.l)))
		}
		if c.want && !same(parse(t, text), c.l) {
			t.Errorf("%s: printed and parsed they are others", name)
		}
	}
}

// written is the tokens of rules, by the chapter's words, be they right or not.
func written(l []api.Rule) []api.Token {
	var all []api.Token
	block := func(decls []api.Decl, inner func()) {
		all = append(all, api.Token{Kind: api.Open, Text: "{"})
		for _, d := range decls {
			all = append(append(all, ident(d.Name), api.Token{Kind: api.Colon}), d.Value...)
			if d.Important {
				all = append(all, api.Token{Kind: api.Delim, Text: "!"}, ident("important"))
			}
			all = append(all, api.Token{Kind: api.Semi})
		}
		inner()
		all = append(all, api.Token{Kind: api.Close, Text: "}"})
	}
	for _, r := range l {
		if r.Kind == api.PageRule {
			all = append(all, api.Token{Kind: api.At, Text: "page"}, api.Token{Kind: api.Space})
		}
		all = append(all, r.Prelude...)
		block(r.Decls, func() {
			for _, m := range r.Margins {
				all = append(all, api.Token{Kind: api.At, Text: m.Name})
				block(m.Decls, func() {})
			}
		})
	}
	return all
}

// P6.2: Right tells whether rules are what they are printed as, and Tokens and Print are what the chapter's words make of these.
func TestRightIsParsed(t *testing.T) {
	r := rand.New(rand.NewSource(8))
	part := func() []api.Token {
		texts := []string{"", "", "x", "x y", "(;)", "[{}]", ";", "{}", " ", " x", "x ", "@x", "!important", "x! IMPORTANT", "important", "!", ")", "(", ":", "x,y"}
		if r.Intn(12) > 0 {
			return scan(t, texts[r.Intn(4)])
		}
		return scan(t, texts[r.Intn(len(texts))])
	}
	decls := func() (l []api.Decl) {
		for range r.Intn(3) {
			names := []string{"a", "b", "c d", "\u00e4", "--x", "E", ""}
			name := names[r.Intn(5)]
			if r.Intn(12) == 0 {
				name = names[r.Intn(len(names))]
			}
			l = append(l, api.Decl{Name: name, Value: part(), Important: r.Intn(2) == 0})
		}
		return l
	}
	right := 0
	for range 40000 {
		var l []api.Rule
		for range r.Intn(4) {
			rule := api.Rule{Kind: 1 + r.Intn(2), Prelude: part(), Decls: decls()}
			for range r.Intn(3) * (rule.Kind - 1) {
				names := append(rules.Boxes(), "Top-left", "top")
				rule.Margins = append(rule.Margins, api.Margin{Name: names[r.Intn(len(names))], Decls: decls()})
			}
			l = append(l, rule)
		}
		tokens := written(l)
		text := print.Print(tokens)
		parsed, e := rules.Parse([]byte(text))
		want := e == api.OK && print.Right(tokens) && same(parsed, l)
		if got := rules.Right(l); got != want {
			t.Fatalf("Right of %s is %v; its text %q is parsed as %s", told(l), got, text, told(parsed))
		}
		if !want {
			tokens, text = nil, ""
		} else {
			right++
		}
		if !slices.Equal(rules.Tokens(l), tokens) || rules.Print(l) != text {
			t.Fatalf("of %s Tokens are %+v, Print %q, want %q", told(l), rules.Tokens(l), rules.Print(l), text)
		}
	}
	if right < 10000 || right > 35000 {
		t.Errorf("%d of 40000 lists were right", right)
	}
}

// P6.3: what is parsed may be; printed and parsed again it is the same.
func TestAgain(t *testing.T) {
	r := rand.New(rand.NewSource(9))
	try := func(s string) {
		l := parse(t, s)
		if !rules.Right(l) {
			t.Fatalf("Parse(%q) is %s, which may not be", s, told(l))
		}
		text := rules.Print(l)
		if again := parse(t, text); !same(again, l) || !rules.Same(again, l) || rules.Print(again) != text {
			t.Fatalf("Parse(%q) is %s, and printed as %q %s", s, told(l), text, told(again))
		}
	}
	for range 40000 {
		try(random(r, r.Intn(60)))
	}
	try(strings.Repeat("@page{@top-left{a:b}}", 700))
	try(strings.Repeat("a{b:c!important}", 1024))
	try(strings.Repeat("(", 64) + strings.Repeat(")", 64) + "{a:" + strings.Repeat("[", 63) + strings.Repeat("]", 63))
}

// P6.3: what is parsed of a sheet that is just short enough may be too long to print.
func TestAgainTooLong(t *testing.T) {
	l := parse(t, "a{b:'"+strings.Repeat(`"`, api.MaxBytes/3))
	if rules.Right(l) || rules.Print(l) != "" || len(rules.Tokens(l)) > 0 {
		t.Error("Right of rules whose text is too long")
	}
	l = parse(t, "a{b:"+strings.Repeat(",", api.MaxTokens-4))
	if rules.Right(l) || rules.Print(l) != "" || len(rules.Tokens(l)) > 0 {
		t.Error("Right of rules of too many tokens")
	}
}

// lists is all lists of tokens of rules.
func lists(l []api.Rule) [][]api.Token {
	var all [][]api.Token
	decls := func(l []api.Decl) {
		for _, d := range l {
			all = append(all, d.Value)
		}
	}
	for _, r := range l {
		all = append(all, r.Prelude)
		decls(r.Decls)
		for _, m := range r.Margins {
			decls(m.Decls)
		}
	}
	return all
}

// P6.1, P6.2: what is handed in is neither changed nor kept, and no list of an answer is shared.
func TestMemory(t *testing.T) {
	const s = "@page a b{c:d e!important;f:;@top-left{g:h;i:j k}@top-right{l:m}}n{o:p;q:r!important}"
	b := append([]byte(s), "behind"...)
	first, _ := rules.Parse(b[:len(s)])
	second := parse(t, s)
	if string(b) != s+"behind" {
		t.Errorf("Parse changed its sheet: %q", b)
	}
	clear(b)
	if !same(first, second) {
		t.Error("what was parsed is kept in the sheet's bytes")
	}
	for at, l := range lists(first) { // one list after the other is written over, with the room behind it: the others stay
		before := lists(parse(t, s))
		whole := l[:cap(l)]
		for k := range whole {
			whole[k] = api.Token{Kind: 99}
		}
		for other, rest := range lists(first) {
			if other > at && !slices.Equal(rest, before[other]) {
				t.Fatalf("list %d is shared with list %d", other, at)
			}
		}
	}
	if !same(second, parse(t, s)) {
		t.Error("one answer shares lists with another")
	}
	again := parse(t, s)
	tokens := rules.Tokens(second)
	clear(tokens[:cap(tokens)])
	if !same(second, again) {
		t.Error("Tokens shares lists with its rules")
	}
	rules.Right(second)
	rules.Print(second)
	rules.Same(second, again)
	rules.Sound(second[0].Decls[0].Value)
	if !same(second, again) {
		t.Error("a call changed its rules")
	}
}
