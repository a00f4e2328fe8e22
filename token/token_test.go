package token_test

import (
	"bytes"
	"math/rand"
	"regexp"
	"slices"
	"strconv"
	"strings"
	"testing"

	"broadside/api"
	"broadside/fixed"
	"broadside/runes"
	"broadside/token"
)

func space() api.Token { return api.Token{Kind: api.Space} }

func text(kind int, s string) api.Token { return api.Token{Kind: kind, Text: s} }

func ident(s string) api.Token { return text(api.Ident, s) }

func delim(s string) api.Token { return text(api.Delim, s) }

func number(n int) api.Token { return api.Token{Kind: api.Number, N: n} }

func dim(n int, s string) api.Token { return api.Token{Kind: api.Dim, Text: s, N: n} }

// scan is the tokens of a sheet that has some.
func scan(t *testing.T, s string) []api.Token {
	t.Helper()
	l, e := token.Scan([]byte(s))
	if e != api.OK {
		t.Fatalf("Scan(%q): error %d", s, e)
	}
	return l
}

type row struct {
	in   string
	want []api.Token
}

func hold(t *testing.T, rows []row) {
	t.Helper()
	for _, r := range rows {
		if got := scan(t, r.in); !slices.Equal(got, r.want) {
			t.Errorf("Scan(%q): %v, want %v", r.in, got, r.want)
		}
	}
}

// P3.1: the chapter's examples.
func TestExamples(t *testing.T) {
	hold(t, []row{
		{"a:1.5em/**/b", []api.Token{ident("a"), {Kind: api.Colon}, dim(1500, "em"), ident("b")}},
		{`\31 x`, []api.Token{ident("1x")}},
		{"@page{@top-left{content:counter(page)}}", []api.Token{text(api.At, "page"), text(api.Open, "{"), text(api.At, "top-left"), text(api.Open, "{"), ident("content"), {Kind: api.Colon}, text(api.Func, "counter"), ident("page"), text(api.Close, ")"), text(api.Close, "}"), text(api.Close, "}")}},
	})
}

// P3.1: no bytes, no tokens; nil and empty are the same.
func TestNothing(t *testing.T) {
	for _, b := range [][]byte{nil, {}, []byte("/**/"), []byte("/*"), []byte("/*/"), []byte("/*a*//* b"), []byte("/***/")} {
		if l, e := token.Scan(b); len(l) != 0 || e != api.OK {
			t.Errorf("Scan(%q): %v, %d", b, l, e)
		}
	}
}

// P3.1: escapes of 1 to 6 digits, and one white character behind.
func TestEscapeOfDigits(t *testing.T) {
	hold(t, []row{
		{`\a`, []api.Token{ident("\n")}},
		{`\4A`, []api.Token{ident("J")}},
		{`\04a`, []api.Token{ident("J")}},
		{`\004A`, []api.Token{ident("J")}},
		{`\0004a`, []api.Token{ident("J")}},
		{`\00004A`, []api.Token{ident("J")}},
		{`\00004Ab`, []api.Token{ident("Jb")}},
		{`\0000041`, []api.Token{ident("\x041")}},
		{`\00004A b`, []api.Token{ident("Jb")}},
		{`\4Ag`, []api.Token{ident("Jg")}},
		{`\4A g`, []api.Token{ident("Jg")}},
		{`\4A  g`, []api.Token{ident("J"), space(), ident("g")}},
		{"\\4A\tg", []api.Token{ident("Jg")}},
		{"\\4A\ng", []api.Token{ident("Jg")}},
		{"\\4A\r\ng", []api.Token{ident("Jg")}},
		{"\\4A\fg", []api.Token{ident("Jg")}},
		{"\\4A\n\ng", []api.Token{ident("J"), space(), ident("g")}},
		{`\4A/**/g`, []api.Token{ident("J"), ident("g")}},
		{`\4A /**/g`, []api.Token{ident("J"), ident("g")}},
		{`\4A `, []api.Token{ident("J")}},
		{`\41\42 \43`, []api.Token{ident("ABC")}},
		{`\20AC`, []api.Token{ident("€")}},
		{`\10FFFF`, []api.Token{ident("\U0010FFFF")}},
		{`\d7ff\E000`, []api.Token{ident("\uD7FF\uE000")}},
		{`\c\d`, []api.Token{ident("\f\r")}}, // what an escape means is no end of a line
	})
}

// P3.1: an escape of 0, or of no character, is 0xFFFD.
func TestEscapeOfNoCharacter(t *testing.T) {
	for _, s := range []string{`\0`, `\00`, `\000000`, `\D800`, `\dFFf`, `\dc00`, `\110000`, `\FFFFFF`, "\\\x00", "\\\xFF"} {
		hold(t, []row{{s, []api.Token{ident("\uFFFD")}}, {"'" + s + "'", []api.Token{text(api.String, "\uFFFD")}}, {"a" + s, []api.Token{ident("a\uFFFD")}}})
	}
}

// P3.1: an escape of any other character is that one; a \ ahead of a 10, or at the end, is none.
func TestEscapeOfOthers(t *testing.T) {
	hold(t, []row{
		{`\g`, []api.Token{ident("g")}},
		{`\G\ \"\(\\\{\é`, []api.Token{ident(`G "(\{é`)}},
		{"\\\t", []api.Token{ident("\t")}},
		{`a\`, []api.Token{ident("a"), delim(`\`)}},
		{`\`, []api.Token{delim(`\`)}},
		{"\\\n", []api.Token{delim(`\`), space()}},
		{"\\\r\nx", []api.Token{delim(`\`), space(), ident("x")}},
		{"\\\fx", []api.Token{delim(`\`), space(), ident("x")}},
		{"a\\\nb", []api.Token{ident("a"), delim(`\`), space(), ident("b")}},
		{`\\`, []api.Token{ident(`\`)}},
		{`\\\`, []api.Token{ident(`\`), delim(`\`)}},
		{"-\\\n", []api.Token{delim("-"), delim(`\`), space()}},
		{`-\`, []api.Token{delim("-"), delim(`\`)}},
		{"#\\\n", []api.Token{delim("#"), delim(`\`), space()}},
		{`#\`, []api.Token{delim("#"), delim(`\`)}},
		{"@\\\n", []api.Token{delim("@"), delim(`\`), space()}},
		{`@\`, []api.Token{delim("@"), delim(`\`)}},
		{"1\\\n", []api.Token{number(1000), delim(`\`), space()}},
		{`1\`, []api.Token{number(1000), delim(`\`)}},
		{`@-\`, []api.Token{delim("@"), delim("-"), delim(`\`)}},
	})
}

// P3.1: names, and a - that begins one, a number, or nothing.
func TestNames(t *testing.T) {
	hold(t, []row{
		{"a", []api.Token{ident("a")}},
		{"_-9zé\u00a0", []api.Token{ident("_-9zé\u00a0")}},
		{"\xFF", []api.Token{ident("\uFFFD")}},
		{"\x00", []api.Token{ident("\uFFFD")}},
		{"A b", []api.Token{ident("A"), space(), ident("b")}},
		{"a.b", []api.Token{ident("a"), delim("."), ident("b")}},
		{"-a", []api.Token{ident("-a")}},
		{"-é", []api.Token{ident("-é")}},
		{"--", []api.Token{ident("--")}},
		{"--1", []api.Token{ident("--1")}},
		{"---", []api.Token{ident("---")}},
		{"-->", []api.Token{ident("--"), delim(">")}},
		{`-\31`, []api.Token{ident("-1")}},
		{"-", []api.Token{delim("-")}},
		{"- a", []api.Token{delim("-"), space(), ident("a")}},
		{"-1", []api.Token{number(-1000)}},
		{"-.5", []api.Token{number(-500)}},
		{"-.", []api.Token{delim("-"), delim(".")}},
		{"-.a", []api.Token{delim("-"), delim("."), ident("a")}},
		{"-+1", []api.Token{delim("-"), number(1000)}},
		{"+-1", []api.Token{delim("+"), number(-1000)}},
		{"+a", []api.Token{delim("+"), ident("a")}},
		{"-#a", []api.Token{delim("-"), text(api.Hash, "a")}},
		{"a-1", []api.Token{ident("a-1")}},
		{"a+1", []api.Token{ident("a"), number(1000)}},
		{"a(", []api.Token{text(api.Func, "a")}},
		{"-a()", []api.Token{text(api.Func, "-a"), text(api.Close, ")")}},
		{"--(", []api.Token{text(api.Func, "--")}},
		{`\28((`, []api.Token{text(api.Func, "("), text(api.Open, "(")}},
		{"a (", []api.Token{ident("a"), space(), text(api.Open, "(")}},
		{"a/**/(", []api.Token{ident("a"), text(api.Open, "(")}},
		{"a[", []api.Token{ident("a"), text(api.Open, "[")}},
		{"url(a b)", []api.Token{text(api.Func, "url"), ident("a"), space(), ident("b"), text(api.Close, ")")}},
	})
}

// P3.1: # and @ with a name, and without.
func TestHashAndAt(t *testing.T) {
	hold(t, []row{
		{"#a", []api.Token{text(api.Hash, "a")}},
		{"#1", []api.Token{text(api.Hash, "1")}},
		{"#-", []api.Token{text(api.Hash, "-")}},
		{"#12ab(", []api.Token{text(api.Hash, "12ab"), text(api.Open, "(")}},
		{`#\31`, []api.Token{text(api.Hash, "1")}},
		{"#é", []api.Token{text(api.Hash, "é")}},
		{"#", []api.Token{delim("#")}},
		{"# a", []api.Token{delim("#"), space(), ident("a")}},
		{"##a", []api.Token{delim("#"), text(api.Hash, "a")}},
		{"#+1", []api.Token{delim("#"), number(1000)}},
		{"#.5", []api.Token{delim("#"), number(500)}},
		{"#/**/a", []api.Token{delim("#"), ident("a")}},
		{"@a", []api.Token{text(api.At, "a")}},
		{"@-a-1", []api.Token{text(api.At, "-a-1")}},
		{"@--", []api.Token{text(api.At, "--")}},
		{`@\31`, []api.Token{text(api.At, "1")}},
		{`@-\31`, []api.Token{text(api.At, "-1")}},
		{"@a(", []api.Token{text(api.At, "a"), text(api.Open, "(")}},
		{"@", []api.Token{delim("@")}},
		{"@-", []api.Token{delim("@"), delim("-")}},
		{"@1", []api.Token{delim("@"), number(1000)}},
		{"@-1", []api.Token{delim("@"), number(-1000)}},
		{"@ a", []api.Token{delim("@"), space(), ident("a")}},
		{"@@a", []api.Token{delim("@"), text(api.At, "a")}},
	})
}

// P3.1: a decimal; with a name, a %, or nothing behind.
func TestDecimals(t *testing.T) {
	percent := func(n int) api.Token { return api.Token{Kind: api.Percent, N: n} }
	hold(t, []row{
		{"1", []api.Token{number(1000)}},
		{"+1.5", []api.Token{number(1500)}},
		{".5", []api.Token{number(500)}},
		{"+.5e1", []api.Token{number(5000)}},
		{"1e3", []api.Token{number(1000000)}},
		{"1E-3", []api.Token{number(1)}},
		{"1.", []api.Token{number(1000), delim(".")}},
		{"1.a", []api.Token{number(1000), delim("."), ident("a")}},
		{"1.5.5", []api.Token{number(1500), number(500)}},
		{"1+1", []api.Token{number(1000), number(1000)}},
		{"1-1", []api.Token{number(1000), number(-1000)}},
		{"1 -1", []api.Token{number(1000), space(), number(-1000)}},
		{"0.0019", []api.Token{number(1)}},
		{"9999999999", []api.Token{number(api.MaxFixed)}},
		{"-1e999999999", []api.Token{number(-api.MaxFixed)}},
		{"1em", []api.Token{dim(1000, "em")}},
		{"1e", []api.Token{dim(1000, "e")}},
		{"1e+", []api.Token{dim(1000, "e"), delim("+")}},
		{"1e-", []api.Token{dim(1000, "e-")}},
		{"1e1e1", []api.Token{dim(10000, "e1")}},
		{"1e1.5", []api.Token{number(10000), number(500)}},
		{"1-a", []api.Token{dim(1000, "-a")}},
		{"1--", []api.Token{dim(1000, "--")}},
		{"1--1", []api.Token{dim(1000, "--1")}},
		{"1-", []api.Token{number(1000), delim("-")}},
		{"1_", []api.Token{dim(1000, "_")}},
		{"1é", []api.Token{dim(1000, "é")}},
		{`1\31`, []api.Token{dim(1000, "1")}},
		{`-1.5\65 3`, []api.Token{dim(-1500, "e3")}},
		{"1px(", []api.Token{dim(1000, "px"), text(api.Open, "(")}},
		{"1(", []api.Token{number(1000), text(api.Open, "(")}},
		{"1 em", []api.Token{number(1000), space(), ident("em")}},
		{"1/**/em", []api.Token{number(1000), ident("em")}},
		{"50%", []api.Token{percent(50000)}},
		{"-.5%", []api.Token{percent(-500)}},
		{"1%a", []api.Token{percent(1000), ident("a")}},
		{"1%%", []api.Token{percent(1000), delim("%")}},
		{"1 %", []api.Token{number(1000), space(), delim("%")}},
		{"1/**/%", []api.Token{number(1000), delim("%")}},
		{"1e%", []api.Token{dim(1000, "e"), delim("%")}},
		{"+", []api.Token{delim("+")}},
		{"+ 1", []api.Token{delim("+"), space(), number(1000)}},
		{"+.", []api.Token{delim("+"), delim(".")}},
		{".", []api.Token{delim(".")}},
		{"..5", []api.Token{delim("."), number(500)}},
		{"%", []api.Token{delim("%")}},
		{"٣", []api.Token{ident("٣")}}, // a digit, but none of 0 to 9
	})
}

// P3.1: texts in quotes, closed, not closed, and with a 10 inside.
func TestTexts(t *testing.T) {
	bad := func(s string) api.Token { return text(api.Bad, s) }
	str := func(s string) api.Token { return text(api.String, s) }
	hold(t, []row{
		{`"a"`, []api.Token{str("a")}},
		{`'a'`, []api.Token{str("a")}},
		{`""''`, []api.Token{str(""), str("")}},
		{`"'"'"'`, []api.Token{str("'"), str(`"`)}},
		{`"\"\'"x`, []api.Token{str(`"'`), ident("x")}},
		{`'\27'x`, []api.Token{str("'"), ident("x")}},
		{"'\\31\nx'", []api.Token{str("1x")}}, // the 10 goes with the escape
		{"'\\31 \nx", []api.Token{bad("1"), space(), ident("x")}},
		{`'\31  x'`, []api.Token{str("1 x")}},
		{`"/* */"`, []api.Token{str("/* */")}},
		{`"a`, []api.Token{str("a")}},
		{`"`, []api.Token{str("")}},
		{`'a"b`, []api.Token{str(`a"b`)}},
		{`"a\`, []api.Token{str("a")}},
		{`"\`, []api.Token{str("")}},
		{`"\\`, []api.Token{str(`\`)}},
		{"'a\\\nb'", []api.Token{str("ab")}},
		{"'\\\n\\\r\n'", []api.Token{str("")}},
		{"'\\\n", []api.Token{str("")}},
		{"'\\\n\n", []api.Token{bad(""), space()}},
		{"'a\nb'", []api.Token{bad("a"), space(), ident("b"), str("")}},
		{"\"\n\"", []api.Token{bad(""), space(), str("")}},
		{"'a\rb", []api.Token{bad("a"), space(), ident("b")}},
		{"'a\f/**/ b", []api.Token{bad("a"), space(), ident("b")}},
		{`'\a '`, []api.Token{str("\n")}},
		{"'\x00\xE2\x82'", []api.Token{str("\uFFFD\uFFFD")}},
		{"'\\\x00'", []api.Token{str("\uFFFD")}},
		{"a'b'c", []api.Token{ident("a"), str("b"), ident("c")}},
		{"1'b'", []api.Token{number(1000), str("b")}},
	})
}

// P3.1, P3.2: white space and comments side by side are one Space, or nothing.
func TestGaps(t *testing.T) {
	hold(t, []row{
		{" ", []api.Token{space()}},
		{" \t\r\n\f", []api.Token{space()}},
		{" /**/ /**/ ", []api.Token{space()}},
		{"/**/ ", []api.Token{space()}},
		{" /**/", []api.Token{space()}},
		{"a/**/ /**/b", []api.Token{ident("a"), space(), ident("b")}},
		{"a/**//**/b", []api.Token{ident("a"), ident("b")}},
		{"a /* /* */ b", []api.Token{ident("a"), space(), ident("b")}},
		{"a/* '\n */b", []api.Token{ident("a"), ident("b")}},
		{"a /*b", []api.Token{ident("a"), space()}},
		{"a/* ", []api.Token{ident("a")}},
		{"a/*/b*/c", []api.Token{ident("a"), ident("c")}},
		{"a/***/b", []api.Token{ident("a"), ident("b")}},
		{"a/**b**/c", []api.Token{ident("a"), ident("c")}},
		{"a/*\\*/b", []api.Token{ident("a"), ident("b")}},
		{"/", []api.Token{delim("/")}},
		{"/ *", []api.Token{delim("/"), space(), delim("*")}},
		{"//**/", []api.Token{delim("/")}},
		{"*/", []api.Token{delim("*"), delim("/")}},
		{"\v\u00a0", []api.Token{delim("\v"), ident("\u00a0")}},
	})
}

// P3.1: what stands for itself.
func TestSingles(t *testing.T) {
	hold(t, []row{
		{"([{)]}", []api.Token{text(api.Open, "("), text(api.Open, "["), text(api.Open, "{"), text(api.Close, ")"), text(api.Close, "]"), text(api.Close, "}")}},
		{":;,", []api.Token{{Kind: api.Colon}, {Kind: api.Semi}, {Kind: api.Comma}}},
	})
	for _, c := range "!$%&*+./<=>?@^`|~#-\x01\x0B\x1F\x7F" {
		hold(t, []row{{string(c), []api.Token{delim(string(c))}}})
	}
}

// P3.1: just as many bytes as may be, and one more.
func TestBytes(t *testing.T) {
	for _, part := range []string{"a", "é", "€", " ", "\x00", "\r\n", "/*", "1", "\\", "-", "0"} {
		s := strings.Repeat(part, api.MaxBytes/len(part))
		s = s + s[:api.MaxBytes-len(s)]
		if _, e := token.Scan([]byte(s)); e != api.OK {
			t.Errorf("%d bytes of %q: error %d", len(s), part, e)
		}
		if l, e := token.Scan([]byte(s + " ")); l != nil || e != api.ErrLong {
			t.Errorf("%d bytes of %q: %d tokens, error %d", len(s)+1, part, len(l), e)
		}
	}
	long := scan(t, strings.Repeat("a", api.MaxBytes))
	if !slices.Equal(long, []api.Token{ident(strings.Repeat("a", api.MaxBytes))}) {
		t.Error("the longest name")
	}
}

// P3.1: just as many tokens as may be, and one more.
func TestTokens(t *testing.T) {
	for _, part := range []string{":", "[", "a,", "'' ", "a ", "#", "a(", "1%", "'\n"} {
		s := strings.Repeat(part, api.MaxTokens)
		n := len(scan(t, part))
		s = s[:api.MaxTokens/n*len(part)]
		if l := scan(t, s); len(l) != api.MaxTokens {
			t.Errorf("%q: %d tokens", part, len(l))
		}
		if l := scan(t, s+"/**/"); len(l) != api.MaxTokens {
			t.Errorf("%q, and a comment: %d tokens", part, len(l))
		}
		for _, more := range []string{":", "''", "/**/;"} {
			if l, e := token.Scan([]byte(s + more)); l != nil || e != api.ErrLong {
				t.Errorf("%q, and %q: %d tokens, error %d", part, more, len(l), e)
			}
		}
	}
	most := strings.Repeat(":", api.MaxTokens)
	if l, e := token.Scan([]byte(most + "\n")); l != nil || e != api.ErrLong {
		t.Errorf("a Space too many: %d tokens, error %d", len(l), e)
	}
}

// What follows is the chapter's words as patterns, and what is scanned by them.
const (
	escapePattern  = `\\(?:[0-9a-fA-F]{1,6}[\t\n ]?|[^\n0-9a-fA-F])`
	letterPattern  = `[a-zA-Z_\x{80}-\x{10FFFF}]`
	withinPattern  = `(?:[a-zA-Z_0-9\-\x{80}-\x{10FFFF}]|` + escapePattern + `)`
	namePattern    = `(?:(?:` + letterPattern + `|` + escapePattern + `|-(?:` + letterPattern + `|` + escapePattern + `|-))` + withinPattern + `*)`
	decimalPattern = `[+-]?(?:[0-9]*\.[0-9]+|[0-9]+)(?:[eE][+-]?[0-9]+)?`
)

var patterns = []struct {
	kind int
	re   *regexp.Regexp // its first group, where it has one, is what is told
}{
	{api.Space, regexp.MustCompile(`^(?:[\t\n ]|/\*(?s:.*?)(?:\*/|\z))+`)},
	{api.String, regexp.MustCompile(`^"((?:` + escapePattern + `|\\\n|[^"\n\\])*)(?:\\?\z|"|)`)},
	{api.String, regexp.MustCompile(`^'((?:` + escapePattern + `|\\\n|[^'\n\\])*)(?:\\?\z|'|)`)},
	{api.Hash, regexp.MustCompile(`^#(` + withinPattern + `+)`)},
	{api.At, regexp.MustCompile(`^@(` + namePattern + `)`)},
	{api.Func, regexp.MustCompile(`^(` + namePattern + `)\(`)},
	{api.Ident, regexp.MustCompile(`^(` + namePattern + `)`)},
	{api.Open, regexp.MustCompile(`^([(\[{])`)},
	{api.Close, regexp.MustCompile(`^([)\]}])`)},
	{api.Colon, regexp.MustCompile(`^:`)},
	{api.Semi, regexp.MustCompile(`^;`)},
	{api.Comma, regexp.MustCompile(`^,`)},
	{api.Delim, regexp.MustCompile(`^((?s:.))`)},
}

var (
	decimalAhead = regexp.MustCompile(`^` + decimalPattern)
	nameAhead    = regexp.MustCompile(`^` + namePattern)
	escapes      = regexp.MustCompile(`(?s)\\(?:[0-9a-fA-F]{1,6}[\t\n ]?|.)`)
	comment      = regexp.MustCompile(`/\*(?s:.*?)(?:\*/|\z)`)
)

// meant is a part of a sheet with what its escapes mean.
func meant(s string) string {
	return escapes.ReplaceAllStringFunc(s, func(e string) string {
		e = e[1:]
		if e == "\n" {
			return ""
		}
		n, err := strconv.ParseUint(strings.TrimRight(e, "\t\n "), 16, 32)
		switch {
		case err != nil:
			return e
		case n == 0 || n > 0x10FFFF || 0xD800 <= n && n < 0xE000:
			return "\uFFFD"
		}
		return string(rune(n))
	})
}

// firstNumber is the token of a decimal that is the first thing of a text, and what is behind.
func firstNumber(decimal, rest string) (api.Token, string) {
	n, _ := fixed.Parse(decimal)
	if name := nameAhead.FindString(rest); name != "" {
		return dim(n, meant(name)), rest[len(name):]
	}
	if behind, is := strings.CutPrefix(rest, "%"); is {
		return api.Token{Kind: api.Percent, N: n}, behind
	}
	return number(n), rest
}

// first is the first token of a text by the patterns, whether it is one, and what is behind.
func first(s string) (api.Token, bool, string) {
	if decimal := decimalAhead.FindString(s); decimal != "" {
		t, rest := firstNumber(decimal, s[len(decimal):])
		return t, true, rest
	}
	for _, p := range patterns {
		m := p.re.FindStringSubmatch(s)
		if m == nil {
			continue
		}
		t := api.Token{Kind: p.kind}
		rest := s[len(m[0]):]
		switch {
		case p.kind == api.String:
			t.Text = meant(m[1])
			if len(m[0]) == len(m[1])+1 && rest != "" {
				t.Kind = api.Bad
			}
		case p.kind == api.Open || p.kind == api.Close || p.kind == api.Delim:
			t.Text = m[1]
		case len(m) > 1:
			t.Text = meant(m[1])
		}
		return t, p.kind != api.Space || comment.ReplaceAllString(m[0], "") != "", rest
	}
	panic("no token of " + strconv.Quote(s))
}

// byPatterns is the tokens of a sheet by the patterns.
func byPatterns(b []byte) []api.Token {
	var l []api.Token
	s := string(runes.Write(runes.Read(b)))
	for s != "" {
		t, is, rest := first(s)
		if is {
			l = append(l, t)
		}
		s = rest
	}
	return l
}

// agree holds a sheet's tokens against those by the patterns, and against P3.2.
func agree(t *testing.T, b []byte) {
	t.Helper()
	got, e := token.Scan(b)
	if want := byPatterns(b); e != api.OK || !slices.Equal(got, want) {
		t.Fatalf("Scan(%q): %v, %d, want %v", b, got, e, want)
	}
	for at, k := range got {
		behind := at+1 < len(got) && got[at+1].Kind == api.Space
		if k.Kind == api.Space && behind || k.Kind == api.Bad && !behind {
			t.Fatalf("Scan(%q): %v", b, got)
		}
	}
}

// P3.1, P3.2: all short sheets of the characters that matter.
func TestAllShort(t *testing.T) {
	parts := []string{"\\", "\n", " ", "a", "g", "1", "0", "-", "+", ".", "e", "%", "/", "*", "'", "\"", "#", "@", "(", "]", ":", ";", ",", "é", "!"}
	var go4 func(b []byte, left int)
	go4 = func(b []byte, left int) {
		agree(t, b)
		if left == 0 {
			return
		}
		for _, p := range parts {
			go4(append(b[:len(b):len(b)], p...), left-1)
		}
	}
	go4(nil, 3)
}

// P3.1, P3.2: long sheets, of parts that are likely to matter side by side, and of any bytes.
func TestMany(t *testing.T) {
	parts := []string{"\\", "\n", " ", "a", "F", "g", "1", "0", "-", "--", "+", ".", "e", "E", "%", "/", "*", "/*", "*/", "'", "\"", "#", "@", "(", ")", "[", "{", ":", ";", ",", "é", "\xE2\x82", "\x00", "\r", "\f", "\\31", "\\d800 ", "110000", "em", "url("}
	r := rand.New(rand.NewSource(3))
	for range 40000 {
		var b []byte
		for range r.Intn(24) {
			b = append(b, parts[r.Intn(len(parts))]...)
		}
		agree(t, b)
	}
	for range 4000 {
		b := make([]byte, r.Intn(64))
		r.Read(b)
		agree(t, b)
	}
}

// What is handed in stays as it is, with the room behind it, and no answer shares anything with another.
func TestMemory(t *testing.T) {
	room := []byte("a{b:'c\\64'}  x#y\\31 zzzz")
	was := bytes.Clone(room)
	one, _ := token.Scan(room[:11])
	want := slices.Clone(one)
	two, _ := token.Scan(room[:11])
	if !bytes.Equal(room, was) {
		t.Errorf("the sheet has become %q", room)
	}
	clear(room)
	for at := range two[:cap(two)] {
		two[:cap(two)][at] = delim("changed")
	}
	if !slices.Equal(one, want) {
		t.Errorf("an answer has become %v", one)
	}
}
