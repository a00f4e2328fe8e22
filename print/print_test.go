package print_test

import (
	"fmt"
	"math"
	"math/rand"
	"slices"
	"strings"
	"testing"

	"broadside/api"
	"broadside/print"
	"broadside/token"
)

const most = api.MaxFixed

func bare(kind int) api.Token { return api.Token{Kind: kind} }

func space() api.Token { return bare(api.Space) }

func text(kind int, s string) api.Token { return api.Token{Kind: kind, Text: s} }

func ident(s string) api.Token { return text(api.Ident, s) }

func delim(s string) api.Token { return text(api.Delim, s) }

func number(kind, n int) api.Token { return api.Token{Kind: kind, N: n} }

func dim(n int, s string) api.Token { return api.Token{Kind: api.Dim, Text: s, N: n} }

// named is the kinds whose Text is a name.
var named = []int{api.Ident, api.Func, api.At, api.Hash, api.Dim}

// quoted is the kinds whose Text stands in quotes.
var quoted = []int{api.String, api.Bad}

// counted is the kinds that have a number.
var counted = []int{api.Number, api.Percent, api.Dim}

// alone is the kinds that have no parts.
var alone = []int{api.Space, api.Colon, api.Semi, api.Comma}

// closed is a token with what must stand behind it, so that tokens of which it is the last one may be.
func closed(l ...api.Token) []api.Token {
	if l[len(l)-1].Kind == api.Bad {
		return append(slices.Clip(l), space())
	}
	return l
}

// may asks that a token may be, and has that text.
func may(t *testing.T, k api.Token, want string) {
	t.Helper()
	if got := print.Token(k); got != want {
		t.Errorf("Token(%+v) = %q, want %q", k, got, want)
	}
	l := closed(k)
	if !print.Right(l) {
		t.Errorf("Right(%+v) is false", l)
	}
	if len(l) > 1 {
		want += "\n"
	}
	if got := print.Print(l); got != want {
		t.Errorf("Print(%+v) = %q, want %q", l, got, want)
	}
}

// mayNot asks that a token may not be, neither alone nor among others.
func mayNot(t *testing.T, k api.Token) {
	t.Helper()
	if got := print.Token(k); got != "" {
		t.Errorf("Token(%+v) = %q", k, got)
	}
	for _, l := range [][]api.Token{{k}, {k, space()}, {space(), k, space()}, {ident("a"), space(), k}, {k, bare(api.Colon), ident("a")}} {
		wrong(t, l)
	}
}

// wrong asks that tokens may not be.
func wrong(t *testing.T, l []api.Token) {
	t.Helper()
	if print.Right(l) {
		t.Errorf("Right(%.300s) is true", fmt.Sprint(l))
	}
	if got := print.Print(l); got != "" {
		t.Errorf("Print(%.300s) = %.300q", fmt.Sprint(l), got)
	}
}

// again asks that tokens may be, and what is printed is scanned as it was.
func again(t *testing.T, l []api.Token) {
	t.Helper()
	if !print.Right(l) {
		t.Fatalf("Right(%+v) is false", l)
	}
	s := print.Print(l)
	if len(s) > api.MaxBytes {
		return
	}
	if got, e := token.Scan([]byte(s)); e != api.OK || !slices.Equal(got, l) {
		t.Fatalf("Print(%+v) = %q, scanned: %+v, %d", l, s, got, e)
	}
}

// P4.1, P4.2: the chapter's examples.
func TestExamples(t *testing.T) {
	may(t, ident("1a"), `\31 a`)
	if got := print.Print([]api.Token{ident("a"), ident("b")}); got != "a/**/b" {
		t.Errorf("Print of a, b: %q", got)
	}
}

// P4.1, P4.2: no tokens at all may be, and have no text.
func TestNothing(t *testing.T) {
	for _, l := range [][]api.Token{nil, {}} {
		if !print.Right(l) || print.Print(l) != "" {
			t.Errorf("of no tokens: %t, %q", print.Right(l), print.Print(l))
		}
	}
}

// P4.1: the text of each kind.
func TestKinds(t *testing.T) {
	for _, c := range []struct {
		k    api.Token
		want string
	}{
		{space(), "\n"},
		{ident("a"), "a"},
		{text(api.Func, "a"), "a("},
		{text(api.At, "a"), "@a"},
		{text(api.Hash, "a"), "#a"},
		{text(api.String, "a"), `"a"`},
		{text(api.Bad, "a"), `"a`},
		{number(api.Number, 1500), "1.5"},
		{number(api.Percent, 1500), "1.5%"},
		{dim(1500, "px"), "1.5px"},
		{delim("!"), "!"},
		{text(api.Open, "("), "("},
		{text(api.Open, "["), "["},
		{text(api.Open, "{"), "{"},
		{text(api.Close, ")"), ")"},
		{text(api.Close, "]"), "]"},
		{text(api.Close, "}"), "}"},
		{bare(api.Colon), ":"},
		{bare(api.Semi), ";"},
		{bare(api.Comma), ","},
		{text(api.String, ""), `""`},
		{text(api.Bad, ""), `"`},
		{text(api.Func, "1-"), `\31 -(`},
		{text(api.At, "1-"), `@\31 -`},
		{text(api.Hash, "1-"), `#\31 -`},
		{dim(-1, "1-"), `-0.001\31 -`},
		{text(api.Func, "url"), "url("},
	} {
		may(t, c.k, c.want)
	}
}

// P4.1: kinds that are none.
func TestNoKinds(t *testing.T) {
	for _, kind := range []int{0, 17, 18, 100, -1, -2, -16, 256 + api.Ident, 1<<32 + api.Ident, math.MaxInt, math.MinInt} {
		for _, k := range []api.Token{bare(kind), text(kind, "a"), text(kind, "("), number(kind, 1000), {Kind: kind, Text: "a", N: 1000}} {
			mayNot(t, k)
		}
	}
}

// P4.1: N of Number, Percent and Dim up to both bounds, and not beyond.
func TestNumbers(t *testing.T) {
	for n, want := range map[int]string{
		0: "0", 1: "0.001", -1: "-0.001", 1000: "1", -1500: "-1.5", 120: "0.12",
		most: "1099511627.776", -most: "-1099511627.776", most - 1: "1099511627.775", 1 - most: "-1099511627.775",
	} {
		may(t, number(api.Number, n), want)
		may(t, number(api.Percent, n), want+"%")
		may(t, dim(n, "px"), want+"px")
	}
	for _, n := range []int{most + 1, -most - 1, most + 1000, 1 << 50, -1 << 50, math.MaxInt, math.MinInt} {
		mayNot(t, number(api.Number, n))
		mayNot(t, number(api.Percent, n))
		mayNot(t, dim(n, "px"))
	}
}

// P4.1: a number where none may be.
func TestNoNumber(t *testing.T) {
	for _, n := range []int{1, -1, 1000, most, -most, math.MaxInt, math.MinInt} {
		for _, kind := range alone {
			mayNot(t, number(kind, n))
		}
		for _, kind := range []int{api.Ident, api.Func, api.At, api.Hash, api.String, api.Bad} {
			mayNot(t, api.Token{Kind: kind, Text: "a", N: n})
		}
		for kind, s := range map[int]string{api.Delim: "!", api.Open: "(", api.Close: ")"} {
			mayNot(t, api.Token{Kind: kind, Text: s, N: n})
		}
	}
}

// P4.1: a text where none may be, none where one must be, and one of another kind.
func TestNoText(t *testing.T) {
	for _, s := range []string{"a", " ", "\n", ":", ";", ",", "%", "1", "\x00", "\xff", "\uFFFD"} {
		for _, kind := range append([]int{api.Number, api.Percent}, alone...) {
			mayNot(t, text(kind, s))
		}
		mayNot(t, api.Token{Kind: api.Number, Text: s, N: 1000})
		mayNot(t, api.Token{Kind: api.Percent, Text: s, N: 1000})
	}
	for _, kind := range append([]int{api.Delim, api.Open, api.Close}, named...) {
		mayNot(t, bare(kind))
		mayNot(t, number(kind, 1000))
	}
	for _, s := range []string{"a", "<", ":", "((", "()", " (", "( ", "([", "(\x00", "\uFF08", "\xff", "\x00", "%"} {
		mayNot(t, text(api.Open, s))
		mayNot(t, text(api.Close, s))
	}
	for _, s := range []string{"(", "[", "{"} {
		mayNot(t, text(api.Close, s))
	}
	for _, s := range []string{")", "]", "}"} {
		mayNot(t, text(api.Open, s))
	}
}

// P4.1: texts that have a 0, or are not UTF-8, wherever that stands.
func TestWrongTexts(t *testing.T) {
	for _, s := range []string{"\x00", "\xff", "\x80", "\xc0\xaf", "\xe2\x82", "\xed\xa0\x80", "\xf4\x90\x80\x80", "\xf0\x9f\x98", "\xc1\xa1"} {
		for _, s := range []string{s, "a" + s, s + "a", "a" + s + "a", "é" + s, "-" + s} {
			for _, kind := range append(append([]int{api.Delim}, quoted...), named...) {
				mayNot(t, text(kind, s))
			}
		}
	}
}

// P4.1: a Delim is one character, and which ones it may be.
func TestDelims(t *testing.T) {
	const some = "!#$%&*+-./<=>?@\\^`|~\x01\x02\x03\x04\x05\x06\x07\x08\x0b\x0e\x0f\x10\x11\x12\x13\x14\x15\x16\x17\x18\x19\x1a\x1b\x1c\x1d\x1e\x1f\x7f"
	for _, c := range characters() {
		k := delim(string(c))
		if strings.ContainsRune(some, c) {
			may(t, k, string(c))
			mayNot(t, delim(string(c)+"!"))
			mayNot(t, delim("!"+string(c)))
			mayNot(t, delim(" "+string(c)))
		} else {
			mayNot(t, k)
		}
	}
	for _, s := range []string{"--", "!!", "/*", "+1", "-a", "!\x00", "!\xff", "\\a", "\u00a0", "\uFFFD", "×"} {
		mayNot(t, delim(s))
	}
}

// characters is those that matter: all short ones but 0, those at each border, and many between.
func characters() []rune {
	var l []rune
	for c := rune(1); c < 0x200; c++ {
		l = append(l, c)
	}
	l = append(l, 0x7FF, 0x800, 0x2028, 0xD7FF, 0xE000, 0xFEFF, 0xFFFD, 0xFFFF, 0x10000, 0x1F600, 0x10FFFF)
	for c := rune(0x200); c <= 0x10FFFF; c += 4099 {
		if c < 0xD800 || c > 0xDFFF {
			l = append(l, c)
		}
	}
	return l
}

func letter(c rune) bool {
	return 'a' <= c && c <= 'z' || 'A' <= c && c <= 'Z' || c == '_' || c >= 0x80
}

func digit(c rune) bool { return '0' <= c && c <= '9' }

func escape(c rune) string { return fmt.Sprintf(`\%x `, c) }

// unless is a character, or escaped, if plain is false.
func unless(plain bool, c rune) string {
	if plain {
		return string(c)
	}
	return escape(c)
}

// around is what stands for the kinds of names, ahead of the name and behind it (a Dim's number is 7).
var around = map[int][2]string{api.Ident: {"", ""}, api.Func: {"", "("}, api.At: {"@", ""}, api.Hash: {"#", ""}, api.Dim: {"7", ""}}

// name asks that a name has that text, in each kind but Dim, and in that one another text.
func name(t *testing.T, s, want, inDim string) {
	t.Helper()
	for _, kind := range named {
		k := text(kind, s)
		w := want
		if kind == api.Dim {
			k.N = 7000
			w = inDim
		}
		may(t, k, around[kind][0]+w+around[kind][1])
	}
}

// P4.1: each character of a name, at each place where that matters.
func TestNamesOfAll(t *testing.T) {
	for _, c := range characters() {
		s := string(c)
		within := letter(c) || digit(c) || c == '-'
		name(t, s, unless(letter(c), c), unless(letter(c) && c != 'e' && c != 'E', c))
		name(t, "a"+s, "a"+unless(within, c), "a"+unless(within, c))
		name(t, "-"+s, "-"+unless(within && !digit(c), c), "-"+unless(within && !digit(c), c))
		name(t, "--"+s, "--"+unless(within, c), "--"+unless(within, c))
		name(t, "ab-"+s+"z", "ab-"+unless(within, c)+"z", "ab-"+unless(within, c)+"z")
		name(t, s+"-9", unless(letter(c) || c == '-', c)+"-9", unless((letter(c) || c == '-') && c != 'e' && c != 'E', c)+"-9")
	}
}

// P4.1: names in which a digit, a - or an e stands first, and those in which it does not.
func TestNames(t *testing.T) {
	for _, c := range [][3]string{
		{"a", "a", "a"}, {"top-left", "top-left", "top-left"}, {"é", "é", "é"}, {"a9", "a9", "a9"}, {"_", "_", "_"}, {"_1", "_1", "_1"}, {"😀1", "😀1", "😀1"},
		{"1", `\31 `, `\31 `}, {"12", `\31 2`, `\31 2`}, {"0a", `\30 a`, `\30 a`}, {"1-2", `\31 -2`, `\31 -2`}, {"9e9", `\39 e9`, `\39 e9`},
		{"-1", `-\31 `, `-\31 `}, {"-12", `-\31 2`, `-\31 2`}, {"-a1", "-a1", "-a1"}, {"--1", "--1", "--1"}, {"-", `\2d `, `\2d `}, {"--", "--", "--"}, {"---", "---", "---"}, {"- ", `-\20 `, `-\20 `}, {"a-", "a-", "a-"}, {"-a-", "-a-", "-a-"}, {"-é1", "-é1", "-é1"},
		{"e", "e", `\65 `}, {"E", "E", `\45 `}, {"em", "em", `\65 m`}, {"ee", "ee", `\65 e`}, {"EX", "EX", `\45 X`}, {"e1", "e1", `\65 1`}, {"e-1", "e-1", `\65 -1`}, {"xe", "xe", "xe"}, {"-e", "-e", "-e"}, {"-e1", "-e1", "-e1"}, {"-E", "-E", "-E"}, {"é", "é", "é"}, {"d", "d", "d"}, {"f", "f", "f"},
		{"a b", `a\20 b`, `a\20 b`}, {"a\nb", `a\a b`, `a\a b`}, {"\n1", `\a 1`, `\a 1`}, {"\f\r\t", `\c \d \9 `, `\c \d \9 `}, {"a(", `a\28 `, `a\28 `}, {"\x7f\x01", `\7f \1 `, `\7f \1 `}, {"+a", `\2b a`, `\2b a`}, {"%", `\25 `, `\25 `}, {".5", `\2e 5`, `\2e 5`}, {`\`, `\5c `, `\5c `}, {`\31 `, `\5c 31\20 `, `\5c 31\20 `}, {"/**/", `\2f \2a \2a \2f `, `\2f \2a \2a \2f `}, {`"'`, `\22 \27 `, `\22 \27 `}, {"-/", `-\2f `, `-\2f `}, {"|1", `\7c 1`, `\7c 1`}, {"\uFFFD", "\uFFFD", "\uFFFD"},
	} {
		name(t, c[0], c[1], c[2])
	}
	long := strings.Repeat("aé-1", 1<<15)
	name(t, long, long, long)
	name(t, strings.Repeat(" ", 1<<15), strings.Repeat(`\20 `, 1<<15), strings.Repeat(`\20 `, 1<<15))
}

// P4.1: texts in quotes: what is escaped in them, and what is not; a Bad alone has a text, too.
func TestTexts(t *testing.T) {
	for _, c := range characters() {
		want := unless(!strings.ContainsRune("\"\\\n\f\r", c), c)
		for _, sides := range [][2]string{{"", ""}, {"a", "b"}, {"1", "1"}, {" ", " "}} {
			may(t, text(api.String, sides[0]+string(c)+sides[1]), `"`+sides[0]+want+sides[1]+`"`)
			may(t, text(api.Bad, sides[0]+string(c)+sides[1]), `"`+sides[0]+want+sides[1])
		}
	}
	for s, want := range map[string]string{
		`"`: `\22 `, `'`: `'`, `\`: `\5c `, "\n": `\a `, "\f": `\c `, "\r": `\d `, "\r\n": `\d \a `, "\t ": "\t ", "/* */": "/* */", "a;b{c": "a;b{c", "-1e": "-1e", "é\uFFFD": "é\uFFFD", `\"\`: `\5c \22 \5c `, "\"1": `\22 1`, "\n\n": `\a \a `, "\x01\x7f": "\x01\x7f",
	} {
		may(t, text(api.String, s), `"`+want+`"`)
		may(t, text(api.Bad, s), `"`+want)
	}
	long := strings.Repeat("a b", 1<<15)
	may(t, text(api.String, long), `"`+long+`"`)
}

// samples is tokens of each kind that may stand ahead of any token, and behind any, as far as the kinds go.
func samples() [][]api.Token {
	return [][]api.Token{
		api.Space:   {space()},
		api.Ident:   {ident("a"), ident("-"), ident("--"), ident("1"), ident("e1"), ident("u"), ident("a ")},
		api.Func:    {text(api.Func, "f"), text(api.Func, "1 "), text(api.Func, "url")},
		api.At:      {text(api.At, "page"), text(api.At, "-1"), text(api.At, ".")},
		api.Hash:    {text(api.Hash, "a"), text(api.Hash, "1"), text(api.Hash, "-")},
		api.String:  {text(api.String, ""), text(api.String, `a"\`), text(api.String, "*/"), text(api.String, "\n")},
		api.Bad:     {text(api.Bad, ""), text(api.Bad, `a"\`), text(api.Bad, "\n1")},
		api.Number:  {number(api.Number, 0), number(api.Number, -500), number(api.Number, 7000)},
		api.Percent: {number(api.Percent, 0), number(api.Percent, -1500)},
		api.Dim:     {dim(1000, "px"), dim(-1000, "e"), dim(500, "-1"), dim(0, "E3"), dim(1, ".5"), dim(2000, "%")},
		api.Delim:   {delim("-"), delim("+"), delim("."), delim("/"), delim("*"), delim("#"), delim("@"), delim("%"), delim("!"), delim("<"), delim("\x0b")},
		api.Open:    {text(api.Open, "("), text(api.Open, "["), text(api.Open, "{")},
		api.Close:   {text(api.Close, ")"), text(api.Close, "]"), text(api.Close, "}")},
		api.Colon:   {bare(api.Colon)},
		api.Semi:    {bare(api.Semi)},
		api.Comma:   {bare(api.Comma)},
	}
}

// between tells what stands between tokens of a kind (the row, in the order of the kinds' numbers) and of another one (the column): a comment (c), nothing (.); or they may not stand so (-).
func between() []string {
	return []string{
		//           SIFAHTBNPDLOC:;,
		api.Space:   "-...............",
		api.Ident:   ".cccc.cccccc....",
		api.Func:    "................",
		api.At:      ".cccc.cccccc....",
		api.Hash:    ".cccc.cccccc....",
		api.String:  "................",
		api.Bad:     ".---------------",
		api.Number:  ".cccc.cccccc....",
		api.Percent: ".cccc.cccccc....",
		api.Dim:     ".cccc.cccccc....",
		api.Delim:   ".cccc.cccccc....",
		api.Open:    "................",
		api.Close:   "................",
		api.Colon:   "................",
		api.Semi:    "................",
		api.Comma:   "................",
	}
}

// P4.1, P4.2, P4.3: each pair of kinds, with the comment between, without it, and where they may not stand so.
func TestPairs(t *testing.T) {
	all, gaps := samples(), between()
	for a := api.Space; a <= api.Comma; a++ {
		for b := api.Space; b <= api.Comma; b++ {
			for _, one := range all[a] {
				for _, two := range all[b] {
					pair(t, one, two, gaps[a][b-1])
				}
			}
		}
	}
}

// pair asks what a pair is.
func pair(t *testing.T, one, two api.Token, gap byte) {
	t.Helper()
	l := closed(one, two)
	if gap == '-' {
		wrong(t, l)
		return
	}
	want := print.Token(one)
	if gap == 'c' {
		want += "/**/"
	}
	want += print.Token(two)
	if len(l) > 2 {
		want += "\n"
	}
	if got := print.Print(l); got != want {
		t.Errorf("Print(%+v) = %q, want %q", l, got, want)
	}
	again(t, l)
}

// P4.2: more than two tokens: each gap is of the two around it.
func TestPrint(t *testing.T) {
	for want, l := range map[string][]api.Token{
		"a:1.5\\65 m/**/b":                         {ident("a"), bare(api.Colon), dim(1500, "em"), ident("b")},
		"@page/**/{@top-left/**/{content:\"x\";}}": {text(api.At, "page"), text(api.Open, "{"), text(api.At, "top-left"), text(api.Open, "{"), ident("content"), bare(api.Colon), text(api.String, "x"), bare(api.Semi), text(api.Close, "}"), text(api.Close, "}")},
		"a/**/b/**/c\nd":                           {ident("a"), ident("b"), ident("c"), space(), ident("d")},
		"\na\n":                                    {space(), ident("a"), space()},
		"f(a)\n,b/**/!/**/important;":              {text(api.Func, "f"), ident("a"), text(api.Close, ")"), space(), bare(api.Comma), ident("b"), delim("!"), ident("important"), bare(api.Semi)},
		"a/**/\"x\n1/**/2%/**/.":                   {ident("a"), text(api.Bad, "x"), space(), number(api.Number, 1000), number(api.Percent, 2000), delim(".")},
		"//**/*/**/a/**/*/**//":                    {delim("/"), delim("*"), ident("a"), delim("*"), delim("/")},
		"a/**/\\\nb/**/\\":                         {ident("a"), delim(`\`), space(), ident("b"), delim(`\`)},
		"\"a\"\"b\"\"c\n":                          {text(api.String, "a"), text(api.String, "b"), text(api.Bad, "c"), space()},
		"#a/**/#\\31 /**/@b/**/--/**/\\2d ":        {text(api.Hash, "a"), text(api.Hash, "1"), text(api.At, "b"), ident("--"), ident("-")},
	} {
		if got := print.Print(l); got != want {
			t.Errorf("Print(%+v) = %q, want %q", l, got, want)
		}
		again(t, l)
	}
}

// P4.1, P4.2: two Space side by side may not be; with another token between they may.
func TestSpaces(t *testing.T) {
	for _, l := range [][]api.Token{
		{space(), space()}, {space(), space(), space()}, {ident("a"), space(), space()}, {space(), space(), ident("a")}, {ident("a"), space(), space(), ident("b")}, {text(api.Bad, "a"), space(), space()}, {delim(`\`), space(), space()},
	} {
		wrong(t, l)
	}
	again(t, []api.Token{space(), ident("a"), space(), bare(api.Semi), space()})
}

// P4.1, P4.2: behind a Bad a Space must stand, and behind a Delim \ no other token.
func TestBehind(t *testing.T) {
	for _, l := range [][]api.Token{
		{text(api.Bad, "a")}, {text(api.Bad, "")}, {ident("a"), text(api.Bad, "a")}, {space(), text(api.Bad, "a")}, {text(api.Bad, "a"), space(), text(api.Bad, "a")},
	} {
		wrong(t, l)
	}
	if got := print.Token(text(api.Bad, "a")); got != `"a` {
		t.Errorf("Token of a Bad: %q", got)
	}
	again(t, []api.Token{text(api.Bad, "a"), space()})
	again(t, []api.Token{text(api.Bad, ""), space(), text(api.Bad, `\`), space(), ident("a")})
	again(t, []api.Token{delim(`\`)})
	again(t, []api.Token{delim(`\`), space()})
	again(t, []api.Token{delim(`\`), space(), delim(`\`), space(), ident("a")})
	for kind, l := range samples() {
		for _, k := range l {
			if kind != api.Space {
				wrong(t, closed(delim(`\`), k))
				wrong(t, append(closed(delim(`\`), k), ident("a")))
				wrong(t, append(closed(ident("a"), delim(`\`), k), space()))
			}
		}
	}
	wrong(t, []api.Token{delim(`\`), delim(`\`)})
	for _, other := range []string{"/", "!", "#", "-"} {
		again(t, []api.Token{delim(other), ident("a")})
	}
}

// P4.1, P4.2: just as many tokens as may be, and one more; also where the text is longer than a sheet.
func TestMost(t *testing.T) {
	for _, c := range []struct {
		k     api.Token
		first string
		next  string
	}{
		{bare(api.Colon), ":", ":"},
		{text(api.Open, "["), "[", "["},
		{text(api.Func, "f"), "f(", "f("},
		{ident("a"), "a", "/**/a"},
		{number(api.Number, -1500), "-1.5", "/**/-1.5"},
		{text(api.String, "long"), `"long"`, `"long"`},
	} {
		l := slices.Repeat([]api.Token{c.k}, api.MaxTokens)
		want := c.first + strings.Repeat(c.next, api.MaxTokens-1)
		if !print.Right(l) || print.Print(l) != want {
			t.Errorf("%d of %v: %t, %d bytes, want %d", len(l), c.k, print.Right(l), len(print.Print(l)), len(want))
		}
		again(t, l)
		wrong(t, append(l, c.k))
		wrong(t, append(l, space()))
		wrong(t, slices.Repeat([]api.Token{c.k}, 5*api.MaxTokens))
		l[api.MaxTokens-1] = bare(0)
		wrong(t, l)
	}
}

// random is tokens that may be.
func random(r *rand.Rand) []api.Token {
	all := samples()
	var l []api.Token
	for range r.Intn(12) {
		kind := 1 + r.Intn(16)
		k := all[kind][r.Intn(len(all[kind]))]
		switch {
		case slices.Contains(named, kind) && r.Intn(2) == 0:
			k.Text = randomText(r, 1+r.Intn(4))
		case slices.Contains(quoted, kind) && r.Intn(2) == 0:
			k.Text = randomText(r, r.Intn(5))
		case kind == api.Delim && r.Intn(4) == 0:
			k.Text = `\`
		}
		if slices.Contains(counted, kind) && r.Intn(2) == 0 {
			k.N = r.Intn(2*most+1) - most
		}
		if kind == api.Space && len(l) > 0 && l[len(l)-1].Kind == api.Space {
			continue
		}
		l = append(l, k)
		if kind == api.Bad || kind == api.Delim && k.Text == `\` {
			l = append(l, space())
		}
	}
	return l
}

// randomText is a text of so many characters.
func randomText(r *rand.Rand, size int) string {
	likely := []rune("-0e1EaF_ \t\n\f\r\\\"'/*()#@%.+:;,!é€😀\x7f\x01\uFFFD")
	var b strings.Builder
	for range size {
		b.WriteRune(likely[r.Intn(len(likely))])
	}
	return b.String()
}

// P4.3: what is printed is scanned as it was.
func TestPrintedIsScanned(t *testing.T) {
	r := rand.New(rand.NewSource(4))
	for range 40000 {
		again(t, random(r))
	}
	for _, c := range characters() {
		s := string(c)
		for _, s := range []string{s, "-" + s, "a" + s + "1", s + s, s + "a", s + " "} {
			for _, kind := range named {
				again(t, []api.Token{text(kind, s), space(), text(kind, s), text(api.Close, ")")})
			}
			for _, kind := range quoted {
				again(t, []api.Token{text(kind, s), space(), text(kind, s), space()})
			}
		}
	}
}

// P4.3: what is scanned may be, and is the same, printed and scanned again.
func TestScannedMayBe(t *testing.T) {
	parts := []string{"\\", "\n", " ", "a", "F", "g", "1", "0", "-", "--", "+", ".", "e", "E", "%", "/", "*", "/*", "*/", "'", "\"", "#", "@", "(", ")", "[", "}", ":", ";", ",", "!", "é", "\xE2\x82", "\x00", "\r", "\f", "\x0b", "\x7f", "\\31", "\\d800 ", "\\a ", "\\c ", "\\0", "110000", "em"}
	r := rand.New(rand.NewSource(5))
	check := func(b []byte) {
		l, e := token.Scan(b)
		if e != api.OK {
			t.Fatalf("Scan(%q): %d", b, e)
		}
		again(t, l)
	}
	for range 40000 {
		var b []byte
		for range r.Intn(24) {
			b = append(b, parts[r.Intn(len(parts))]...)
		}
		check(b)
	}
	for range 4000 {
		b := make([]byte, r.Intn(64))
		r.Read(b)
		check(b)
	}
	for c := range 256 {
		for d := range 256 {
			check([]byte{byte(c), byte(d)})
		}
	}
}

// What is handed in stays as it is, with the room behind it, which no answer hangs on.
func TestMemory(t *testing.T) {
	room := []api.Token{ident("1a"), space(), text(api.String, `"`), delim(`\`), space(), ident("b"), bare(0)}
	was := slices.Clone(room)
	for n := range len(room) {
		want := print.Print(slices.Clone(room[:n]))
		if got := print.Print(room[:n]); got != want {
			t.Errorf("with room behind %+v: %q, want %q", room[:n], got, want)
		}
		if print.Right(room[:n]) != print.Right(slices.Clone(room[:n])) {
			t.Errorf("with room behind %+v: %t", room[:n], print.Right(room[:n]))
		}
	}
	if !print.Right(room[:4]) {
		t.Error("a Delim \\ at the end, with room behind it")
	}
	wrong(t, room[:len(room)])
	if !slices.Equal(room, was) {
		t.Errorf("the tokens have become %+v", room)
	}
}
