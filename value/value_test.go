package value_test

import (
	"math"
	"math/big"
	"math/rand"
	"regexp"
	"slices"
	"strconv"
	"strings"
	"testing"

	"broadside/api"
	"broadside/token"
	"broadside/value"
)

// scan is the tokens of a text.
func scan(t testing.TB, s string) []api.Token {
	t.Helper()
	l, e := token.Scan([]byte(s))
	if e != api.OK {
		t.Fatalf("Scan(%.60q) tells %d", s, e)
	}
	return l
}

func text(s string) api.Item { return api.Item{Kind: api.IsText, Text: s} }

func counter(name string, style int) api.Item {
	return api.Item{Kind: api.IsCounter, Name: name, Style: style}
}

func counters(name, between string, style int) api.Item {
	return api.Item{Kind: api.IsCounters, Name: name, Text: between, Style: style}
}

func named(name string, which int) api.Item {
	return api.Item{Kind: api.IsNamed, Name: name, Which: which}
}

func element(name string, which int) api.Item {
	return api.Item{Kind: api.IsElement, Name: name, Which: which}
}

func attr(name string) api.Item { return api.Item{Kind: api.IsAttr, Name: name} }

func whole() api.Item { return api.Item{Kind: api.IsAttr} }

func items(l ...api.Item) []api.Item { return l }

func step(name string, n int) api.Step { return api.Step{Name: name, N: n} }

func set(name string, l ...api.Item) api.Step { return api.Step{Name: name, Items: l} }

func steps(l ...api.Step) []api.Step { return l }

// sameSteps tells whether two lists of steps have the same parts.
func sameSteps(a, b []api.Step) bool {
	return slices.EqualFunc(a, b, func(a, b api.Step) bool {
		return a.Name == b.Name && a.N == b.N && slices.Equal(a.Items, b.Items)
	})
}

// isContent fails, unless a text is that content list.
func isContent(t *testing.T, s string, want []api.Item) {
	t.Helper()
	if got, gone, is := value.Content(scan(t, s)); gone || !is || !slices.Equal(got, want) {
		t.Errorf("Content(%q) = %+v, %v, %v, want %+v", s, got, gone, is, want)
	}
}

// noContent fails, unless a text is no value of content.
func noContent(t *testing.T, l ...string) {
	t.Helper()
	for _, s := range l {
		if got, gone, is := value.Content(scan(t, s)); got != nil || gone || is {
			t.Errorf("Content(%q) = %+v, %v, %v", s, got, gone, is)
		}
	}
}

// isStrings fails, unless a text is these string steps.
func isStrings(t *testing.T, s string, want []api.Step) {
	t.Helper()
	if got, is := value.Strings(scan(t, s)); !is || !sameSteps(got, want) {
		t.Errorf("Strings(%q) = %+v, %v, want %+v", s, got, is, want)
	}
}

// noStrings fails, unless texts are no string steps.
func noStrings(t *testing.T, l ...string) {
	t.Helper()
	for _, s := range l {
		if got, is := value.Strings(scan(t, s)); got != nil || is {
			t.Errorf("Strings(%q) = %+v, %v", s, got, is)
		}
	}
}

// styles is the styles' names, with their numbers.
var styles = map[string]int{
	"decimal": 0, "decimal-leading-zero": 1, "lower-roman": 2, "upper-roman": 3, "lower-alpha": 4, "lower-latin": 4, "upper-alpha": 5, "upper-latin": 5, "lower-greek": 6, "none": 7,
}

// which is the words that say which assignment counts.
var which = map[string]int{"first": api.First, "start": api.Start, "last": api.Last, "first-except": api.Except}

// noStyles is names that are no style's.
var noStyles = []string{"", "decimals", "roman", "upper", "upper-greek", "lower-gree\u212a", "leading-zero", "decimal-leading", "auto", "initial", "normal", "\u017fquare", "lower_roman", "disc"}

// P7.1: the numbers of the styles.
func TestStyle(t *testing.T) {
	for name, want := range styles {
		for _, s := range []string{name, strings.ToUpper(name), strings.ToUpper(name[:1]) + name[1:]} {
			if got := value.Style(s); got != want {
				t.Errorf("Style(%q) = %d, want %d", s, got, want)
			}
		}
	}
	for _, name := range append(noStyles, " decimal", "decimal ", "lower-\x00", "\xff") {
		if got := value.Style(name); got != -1 {
			t.Errorf("Style(%q) = %d", name, got)
		}
	}
}

// P7.1: the chapter's example, and the document's.
func TestExamples(t *testing.T) {
	isContent(t, "counter(c, lower-roman) ' of ' counter(pages)", items(counter("c", 2), text(" of "), counter("pages", 0)))
	isContent(t, "counter(page, lower-roman) ' of ' counter(pages)", items(counter("page", 2), text(" of "), counter("pages", 0)))
	isContent(t, "element(n)", items(element("n", api.First)))
	isStrings(t, "t content()", steps(set("t", whole())))
}

// P7.1: each part of a content list, alone.
func TestParts(t *testing.T) {
	isContent(t, "'x", items(text("x")))
	isContent(t, "'x' 'y", items(text("x"), text("y")))
	for s, want := range map[string]api.Item{
		"'x'": text("x"), `"X y"`: text("X y"), "''": text(""), "'none'": text("none"),
		"counter(c)": counter("c", 0), "counter(Page)": counter("Page", 0), "counter(c,decimal)": counter("c", 0), "counter(decimal,none)": counter("decimal", 7),
		"counters(c,'.')": counters("c", ".", 0), "counters(c,'')": counters("c", "", 0), "counters(C,'.',UPPER-latin)": counters("C", ".", 5),
		"string(s)": named("s", api.First), "string(Last,first)": named("Last", api.First), "string(normal)": named("normal", api.First),
		"element(e)": element("e", api.First), "element(first,LAST)": element("first", api.Last),
		"attr(a)": attr("a"), "attr(A-b)": attr("A-b"), "attr(content)": attr("content"), "attr(normal)": attr("normal"),
		"COUNTER(c)": counter("c", 0), "Counters(c,'x')": counters("c", "x", 0), "STRING(s)": named("s", api.First), "eLement(e)": element("e", api.First), "Attr(a)": attr("a"),
		`c\4funter(c)`: counter("c", 0), `counter(\6e one-)`: counter("none-", 0), "counter(--)": counter("--", 0), "counter(\u00c4)": counter("\u00c4", 0),
	} {
		isContent(t, s, items(want))
		isContent(t, "'y' "+s, items(text("y"), want))
		isContent(t, "'y'"+s+" counter(d)", items(text("y"), want, counter("d", 0)))
		isContent(t, "string(r,last)attr(b)"+s, items(named("r", api.Last), attr("b"), want))
		isStrings(t, "s "+s, steps(set("s", want)))
	}
}

// P7.1: Space between the parts, within a function and around its commas counts for nothing.
func TestSpace(t *testing.T) {
	want := items(counter("c", 2), text("x"), text("y"), counters("d", ".", 3), named("s", api.Last), element("e", api.Start), attr("a"))
	bare := []string{"counter(", "c", ",", "lower-roman", ")", "'x'", "'y'", "counters(", "d", ",", "'.'", ",", "upper-roman", ")", "string(", "s", ",", "last", ")", "element(", "e", ",", "start", ")", "attr(", "a", ")"}
	for _, between := range []string{"", "/**/", " ", "\n\t ", " /*x*/ "} {
		s := strings.Join(bare, between)
		isContent(t, s, want)
		isContent(t, between+s+between, want)
		isStrings(t, between+"z "+s+between+","+between+"y/**/content("+between+")"+between, steps(set("z", want...), set("y", whole())))
	}
	for at := range bare { // at one place alone
		isContent(t, strings.Join(bare[:at], "")+" "+strings.Join(bare[at:], ""), want)
	}
	gap := api.Token{Kind: api.Space}
	many := []api.Token{gap, gap, {Kind: api.String, Text: "x"}, gap, gap, {Kind: api.Func, Text: "attr"}, gap, gap, {Kind: api.Ident, Text: "a"}, gap, gap, {Kind: api.Close, Text: ")"}, gap, gap}
	if got, _, is := value.Content(many); !is || !slices.Equal(got, items(text("x"), attr("a"))) {
		t.Errorf("Content with many Spaces = %+v, %v", got, is)
	}
}

// P7.1: counter and counters with each style, and without.
func TestCounterStyles(t *testing.T) {
	for name, n := range styles {
		for _, s := range []string{name, strings.ToUpper(name)} {
			isContent(t, "counter(c,"+s+")", items(counter("c", n)))
			isContent(t, "counters(c,'-', "+s+" )", items(counters("c", "-", n)))
		}
	}
	for _, name := range noStyles {
		noContent(t, "counter(c,"+name+")", "counters(c,'-',"+name+")")
	}
	noContent(t, "counter(c,'decimal')", "counter(c,1)", "counter(c,#decimal)", "counter(c,@decimal)", "counter(c,decimal())", "counter(c,(decimal))", "counter(c,decimal decimal)", "counter(c decimal)", "counters(c,decimal)", "counters(c,decimal,'.')", "counters(c,'.' decimal)", "counters(c '.')", "counters(c,'.',first)", "counters(c,.)", "counters(c,1)")
}

// P7.1: string and element with each word, and without.
func TestWhich(t *testing.T) {
	for word, n := range which {
		for _, s := range []string{word, strings.ToUpper(word)} {
			isContent(t, "string(s,"+s+")", items(named("s", n)))
			isContent(t, "element(s, "+s+" )", items(element("s", n)))
		}
	}
	for _, s := range []string{"", "except", "none", "first-", "decimal", "'first'", "1", "#first", "first()", "first last", "first,last", "firſt"} {
		noContent(t, "string(s,"+s+")", "element(s,"+s+")")
	}
	noContent(t, "string(s first)", "element(s first)", "string(first s)", "string('s')", "element('e')", "string(s,'x',first)")
}

// noNames is what is no name, wherever one stands.
var noNames = []string{"none", "auto", "initial", "inherit", "NONE", "Auto", "iNITIAL", "INHERIT", `n\4fne`, "'c'", "1", "1px", "2%", "#c", "@c", ".", "c()", "(c)", "[c]", "{c}", "", ",", ":", ";", "]", "'c\n"}

// P7.1: of each function: what is no name, or too much, or too little.
func TestNoParts(t *testing.T) {
	for _, name := range noNames {
		noContent(t, "counter("+name+")", "counter("+name+",decimal)", "counters("+name+",'.')", "string("+name+")", "element("+name+",last)", "attr("+name+")")
	}
	for _, f := range []string{"counter(", "counters(", "string(", "element(", "attr("} {
		noContent(t, f, f+")", f+" )", f+"c", f+"c]", f+"c)]", f+"])", f+"c))", f+"c,", f+"c,)", f+",c)", f+",)", f+"c,,)", f+"c d)", f+"c,'.',decimal,decimal)", f+"c,'.',first,first)", f+"c,'.',)", f+"c,,decimal)", f+"c,,first)", f+f+"c))", f+"c"+f+"))", f+"c;)", f+"c!)", f+"(c))", "x"+f+"c)", f+"c,first,last)", f+"c,decimal,none)")
	}
	noContent(t, "attr(a,b)", "attr(a,first)", "attr(a,'x')", "counters(c)", "counters(c,)", "counters('.',c)", "counters(c,'.','.')", "counters(c,'.\n)", "content()", "content( )", "content(x)", "attr()", "'x' content()")
	noContent(t, "url(x)", "counter", "counter (c)", "xcounter(c)", "running(n)", "f(c)", "first(c)", "attr-(a)")
}

// P7.1: none and normal.
func TestNone(t *testing.T) {
	for _, s := range []string{"none", "normal", "NONE", "Normal", " none ", "\nNORMAL", `\6eone`, "/**/none/**/"} {
		if got, gone, is := value.Content(scan(t, s)); got != nil || !gone || !is {
			t.Errorf("Content(%q) = %+v, %v, %v", s, got, gone, is)
		}
	}
	noContent(t, "none none", "none normal", "none 'x'", "'x' none", "normal 'x'", "'x' normal", "counter(c) none", "none,", "none)", "(none)", "#none", "@none", "none()", "auto", "initial", "inherit", "nones", "x", "none 1")
	noStrings(t, "s none", "s normal", "s 'x' none", "none none", "normal", "none 'x'", "none,s 'x'", "s 'x',none")
}

// P7.1, P7.2: what is no value of anything.
func TestNoValue(t *testing.T) {
	for _, s := range []string{
		"", " ", "/**/", ",", ", ,", ")", "]", "}", "(", "[", "{", "()", "[]", "{}", "f(", "f()", "'x\n", "'x\n ", "@x", "#x", "!", ".", ":", ";", "\\", "1.5", "3%", "1em", "x y z,", ",x", "x,", "x)", "(x)", "x]", "x(", "running(", "running()", "attr(", "string(s", "counter(c,", "'x',", ",'x'", "'x' , 'y'", "'x')", ")'x'", "'x' 'y\n", "'x';", "'x' 1", "'x' x", "'x'!", "'x' (", "'x' ()", "'x' ('y')", "['x']", "{'x'}", "@x 'y'",
	} {
		l := scan(t, s)
		if got, gone, is := value.Content(l); got != nil || gone || is {
			t.Errorf("Content(%q) = %+v, %v, %v", s, got, gone, is)
		}
		if got, is := value.Strings(l); got != nil || is {
			t.Errorf("Strings(%q) = %+v, %v", s, got, is)
		}
		if got, is := value.Steps(l, 1); got != nil || is {
			t.Errorf("Steps(%q) = %+v, %v", s, got, is)
		}
		if got, is := value.Lengths(l); got != nil || is {
			t.Errorf("Lengths(%q) = %+v, %v", s, got, is)
		}
		if got, is := value.Break(l); got != 0 || is {
			t.Errorf("Break(%q) = %d, %v", s, got, is)
		}
		if got, is := value.Name(l); got != "" || is {
			t.Errorf("Name(%q) = %q, %v", s, got, is)
		}
		if got, is := value.Running(l); got != "" || is {
			t.Errorf("Running(%q) = %q, %v", s, got, is)
		}
	}
	if got, is := value.Length(api.Token{}); got != 0 || is {
		t.Errorf("Length of no token = %d, %v", got, is)
	}
}

// P7.1, P7.2: brackets that are too deep, or just as deep, are in no value.
func TestDeep(t *testing.T) {
	for _, n := range []int{1, 2, 63, 64, 65, 1000} {
		open, closed := strings.Repeat("(", n), strings.Repeat(")", n)
		for _, s := range []string{open + closed, "'x'" + open + closed, "none" + open + closed, "auto" + open, "counter(" + open + "c" + closed + ")", "s 'x'," + open + closed, strings.Repeat("counter(", n) + "c" + closed + ")"} {
			noContent(t, s)
			noStrings(t, s)
			if got, is := value.Steps(scan(t, s), 1); got != nil || is {
				t.Errorf("Steps(%.40q) = %+v, %v", s, got, is)
			}
		}
		for _, s := range []string{"auto" + open, "left" + open + closed, "1px" + open + closed, "running(" + open + "n" + closed + ")", "static" + open} {
			l := scan(t, s)
			_, page := value.Name(l)
			_, running := value.Running(l)
			_, broken := value.Break(l)
			_, long := value.Lengths(l)
			if page || running || broken || long {
				t.Errorf("of %.40q: Name %v, Running %v, Break %v, Lengths %v", s, page, running, broken, long)
			}
		}
	}
}

// P7.1: what happens to counters.
func TestSteps(t *testing.T) {
	for s, want := range map[string][]api.Step{
		"none": nil, " NONE ": nil, `n\6fne`: nil,
		"a": steps(step("a", 7)), "A": steps(step("A", 7)), " a ": steps(step("a", 7)), "normal": steps(step("normal", 7)), "a b": steps(step("a", 7), step("b", 7)), "a a": steps(step("a", 7), step("a", 7)), "a/**/b": steps(step("a", 7), step("b", 7)), "decimal": steps(step("decimal", 7)),
		"a 1": steps(step("a", 1)), "a 0": steps(step("a", 0)), "a -1": steps(step("a", -1)), "a/**/+3": steps(step("a", 3)), "a 2 b": steps(step("a", 2), step("b", 7)), "a b 2": steps(step("a", 7), step("b", 2)), "a 1 b 2 a 3 c": steps(step("a", 1), step("b", 2), step("a", 3), step("c", 7)),
		"a 1.0": steps(step("a", 1)), "a 2e1": steps(step("a", 20)), "a -0": steps(step("a", 0)),
		"a 1099511627": steps(step("a", 1099511627)), "a -1099511627 b": steps(step("a", -1099511627), step("b", 7)),
	} {
		got, is := value.Steps(scan(t, s), 7)
		if !is || !sameSteps(got, want) {
			t.Errorf("Steps(%q) = %+v, %v, want %+v", s, got, is, want)
		}
	}
	for _, s := range []string{
		"a none", "none a", "none none", "none 1", "none,", "a auto", "initial", "a INHERIT", "1", "1 a", "a 1 2", "a 1.5", "a 0.001", "a -1.5 b", "a 1px", "a 1%", "a '1'", "a #b", "a @b", "a, b", "a 1, b 2", "a,", ",a", "a 1,", "a (1)", "(a 1)", "a(1)", "a [", "a 1)", ")a", "a;", "a 'b\n", "f()", "counter(a)", "a 1 none", "a 1.5 b 2", "a 15e-1",
		"a 1099511628", "a 2147483648", "a -99999999999", // numbers stop at 2^40 thousandths, which are no whole thousands
	} {
		if got, is := value.Steps(scan(t, s), 7); got != nil || is {
			t.Errorf("Steps(%q) = %+v, %v", s, got, is)
		}
	}
}

// P7.1: where no number stands, N is what is said.
func TestStepsUsual(t *testing.T) {
	for _, usual := range []int{0, 1, -1, 7, math.MaxInt32, math.MinInt32} {
		got, is := value.Steps(scan(t, "a b 3 c 0 d"), usual)
		if want := steps(step("a", usual), step("b", 3), step("c", 0), step("d", usual)); !is || !sameSteps(got, want) {
			t.Errorf("Steps, usual %d: %+v, %v", usual, got, is)
		}
	}
	for n, want := range map[int]int{
		0: 0, 1000: 1, -1000: -1, 2147483647000: math.MaxInt32, 2147483646000: math.MaxInt32 - 1, 2147483648000: math.MaxInt32, -2147483648000: math.MinInt32, -2147483647000: math.MinInt32 + 1, -2147483649000: math.MinInt32,
		math.MaxInt / 1000 * 1000: math.MaxInt32, math.MinInt / 1000 * 1000: math.MinInt32,
	} {
		got, is := value.Steps([]api.Token{{Kind: api.Ident, Text: "a"}, {Kind: api.Number, N: n}}, 5)
		if !is || !sameSteps(got, steps(step("a", want))) {
			t.Errorf("Steps of %d thousandths: %+v, %v", n, got, is)
		}
	}
	for _, n := range []int{1, -1, 999, 1001, -999, -1001, math.MaxInt, math.MinInt} {
		if got, is := value.Steps([]api.Token{{Kind: api.Ident, Text: "a"}, {Kind: api.Number, N: n}}, 5); got != nil || is {
			t.Errorf("Steps of %d thousandths: %+v, %v", n, got, is)
		}
	}
}

// P7.1: what happens to named strings.
func TestStrings(t *testing.T) {
	for s, want := range map[string][]api.Step{
		"none": nil, "None": nil, " none": nil,
		"s 'x'": steps(set("s", text("x"))), "s'x'": steps(set("s", text("x"))), " S 'x' ": steps(set("S", text("x"))), "normal 'x'": steps(set("normal", text("x"))),
		"s content()": steps(set("s", whole())), "s CONTENT( )": steps(set("s", whole())), "s content()content()": steps(set("s", whole(), whole())),
		"s 'a' content() 'b'": steps(set("s", text("a"), whole(), text("b"))), "s attr(t) content()": steps(set("s", attr("t"), whole())),
		"s counter(c) '.' counters(d,'.',upper-alpha)": steps(set("s", counter("c", 0), text("."), counters("d", ".", 5))),
		"s string(r, last) element(e)":                 steps(set("s", named("r", api.Last), element("e", api.First))),
		"s 'x', r 'y'":                                 steps(set("s", text("x")), set("r", text("y"))),
		"s 'x',s'x' , s content()":                     steps(set("s", text("x")), set("s", text("x")), set("s", whole())),
		"s counter(c,none),r string(s,last)":           steps(set("s", counter("c", 7)), set("r", named("s", api.Last))),
	} {
		isStrings(t, s, want)
	}
	noStrings(t, "s", "s,", "'x'", "content()", "s 'x',", ",s 'x'", "s 'x',,r 'y'", "s,'x'", "s 'x' r 'y'", "s 'x',r", "s 'x','y'", "s r 'x'", "s content", "s content(", "s content(x)", "s content(,)", "s content())", "s content(content())", "s 'x', none", "s (content())", "s 1", "s 'x' 1", "s f()", "s 'x\n", "s 'x'; r 'y'", "s counter(c,)", "s counter(c", "s attr()", "[s 'x']", "s 'x')", "auto content()", "s 'x', initial 'y'", "s 'x', 'r' 'y'")
	for _, name := range noNames {
		noStrings(t, name+" 'x'", "s 'x',"+name+" content()", "s attr("+name+")")
	}
}

// exact is how many thousandths of a px a length is, from units per unit, by fractions.
func exact(n int, times, per int64) int {
	r := new(big.Int).Mul(big.NewInt(int64(n)), big.NewInt(times))
	r.Quo(r, big.NewInt(per)) // towards 0
	most := big.NewInt(api.MaxFixed)
	if r.CmpAbs(most) > 0 {
		return api.MaxFixed * r.Sign()
	}
	return int(r.Int64())
}

// units is how many px each unit is: so many, by so many.
var units = map[string][2]int64{"px": {1, 1}, "pt": {4, 3}, "in": {96, 1}, "cm": {9600, 254}, "mm": {960, 254}, "pc": {16, 1}}

// P7.2: lengths as they are written.
func TestLength(t *testing.T) {
	for s, want := range map[string]int{
		"1px": 1000, "1PX": 1000, "0px": 0, "-1.5px": -1500, "0.001px": 1, "1in": 96000, "1In": 96000, "1pc": 16000, "-2PC": -32000, "1pt": 1333, "3pt": 4000, "-1pt": -1333, "0.001pt": 1, "0.002pt": 2, "-0.002pT": -2, "0.25pt": 333,
		"2.54cm": 96000, "25.4mm": 96000, "1cm": 37795, "1mm": 3779, "-1cM": -37795, "-1MM": -3779, "210mm": 793700, "297mm": 1122519, "21cm": 793700, "148mm": 559370, "8.5in": 816000, "0.001mm": 3, "0.001cm": 37,
		"0": 0, "-0": 0, "0.0": 0, "0.0001": 0, "1099511627.776px": 1 << 40, "99999999999px": 1 << 40, "-99999999999in": -1 << 40, "1099511627.775px": 1<<40 - 1, "900000000pt": 1 << 40, "800000000pt": 1066666666666, "11453246.123in": 1 << 40, "11453246.122in": 1099511627712,
	} {
		l := scan(t, s)
		if len(l) != 1 {
			t.Fatalf("%q is %+v", s, l)
		}
		if got, is := value.Length(l[0]); got != want || !is {
			t.Errorf("Length(%q) = %d, %v, want %d", s, got, is, want)
		}
	}
	for _, s := range []string{"1", "-1", "0.001", "1em", "0em", "0%", "1%", "1q", "1pxx", "1p", "1p\u212a", "px", "'1px'", "#px", "@px", ".", ",", "px(", "1\u0440x"} {
		if got, is := value.Length(scan(t, s)[0]); got != 0 || is {
			t.Errorf("Length(%q) = %d, %v", s, got, is)
		}
	}
}

// P7.2: lengths of each unit, in any letters, held against fractions; and of other kinds of tokens.
func TestLengthAll(t *testing.T) {
	r := rand.New(rand.NewSource(1))
	some := []int{0, 1, -1, 2, 3, -3, 5, 127, 254, 999, 1000, 1001, 1 << 40, -1 << 40, 1<<40 + 1, 1<<40 - 1, -1<<40 - 1, math.MaxInt, math.MinInt, math.MaxInt32, 1 << 53}
	for range 3000 {
		some = append(some, r.Intn(1<<20)-1<<19, r.Intn(1<<41)-1<<40, int(r.Uint64()))
	}
	for unit, by := range units {
		for _, n := range some {
			b := []byte(unit)
			for k := range b {
				b[k] -= byte(r.Intn(2)) * ('a' - 'A')
			}
			want := exact(n, by[0], by[1])
			if got, is := value.Length(api.Token{Kind: api.Dim, Text: string(b), N: n}); got != want || !is {
				t.Fatalf("Length of %d %s = %d, %v, want %d", n, b, got, is, want)
			}
			if got, is := value.Length(api.Token{Kind: api.Number, N: n}); got != 0 || is != (n == 0) {
				t.Fatalf("Length of %d = %d, %v", n, got, is)
			}
		}
		for k := -1; k <= 18; k++ {
			if got, is := value.Length(api.Token{Kind: k, Text: unit, N: 1000}); k != api.Dim && (got != 0 || is) {
				t.Errorf("Length of kind %d = %d, %v", k, got, is)
			}
		}
	}
}

// P7.2: the lengths of four sides.
func TestLengths(t *testing.T) {
	for s, want := range map[string][]int{
		"1px": {1000, 1000, 1000, 1000}, " 1px ": {1000, 1000, 1000, 1000}, "0": {0, 0, 0, 0},
		"1px 2px": {1000, 2000, 1000, 2000}, "1px/**/2px": {1000, 2000, 1000, 2000}, "0 1pt": {0, 1333, 0, 1333},
		"1px 2px 3px": {1000, 2000, 3000, 2000}, "1in 0 -1PC": {96000, 0, -16000, 0},
		"1px 2px 3px 4px": {1000, 2000, 3000, 4000}, "0 0 0 -1px": {0, 0, 0, -1000}, "99999999999in -99999999999in": {1 << 40, -1 << 40, 1 << 40, -1 << 40},
	} {
		if got, is := value.Lengths(scan(t, s)); !is || !slices.Equal(got, want) {
			t.Errorf("Lengths(%q) = %v, %v, want %v", s, got, is, want)
		}
	}
	for _, s := range []string{"1px 2px 3px 4px 5px", "0 0 0 0 0", "1px,2px", "1px,", "1px 2px 3px 4px,", "auto", "1px auto", "none", "1px 1", "1px 2px x 3px", "1px 2px 3px 1em", "(1px)", "1px (2px)", "1px)", "f(1px)", "1px!", "1px 'x\n"} {
		if got, is := value.Lengths(scan(t, s)); got != nil || is {
			t.Errorf("Lengths(%q) = %v, %v", s, got, is)
		}
	}
}

// P7.2: the words of breaks.
func TestBreak(t *testing.T) {
	words := map[string]int{"auto": api.Auto, "avoid": api.Avoid, "avoid-page": api.Avoid, "page": api.Page, "always": api.Page, "left": api.Left, "verso": api.Left, "right": api.Right, "recto": api.Right}
	for word, want := range words {
		for _, s := range []string{word, strings.ToUpper(word), strings.ToUpper(word[:1]) + word[1:], " " + word + "\n", "/**/" + word + "/**/"} {
			if got, is := value.Break(scan(t, s)); got != want || !is {
				t.Errorf("Break(%q) = %d, %v, want %d", s, got, is, want)
			}
		}
		for _, s := range []string{word + " " + word, word + ",", "," + word, "'" + word + "'", "#" + word, "@" + word, word + "(", word + "()", "(" + word + ")", word + ")", word + "-", word + " 1", word + "!", "x" + word, word + " 'x\n"} {
			if got, is := value.Break(scan(t, s)); got != 0 || is {
				t.Errorf("Break(%q) = %d, %v", s, got, is)
			}
		}
	}
	for _, s := range []string{"none", "initial", "inherit", "avoid-column", "column", "region", "all", "normal", "alway\u017f", "recto verso", "1"} {
		if got, is := value.Break(scan(t, s)); got != 0 || is {
			t.Errorf("Break(%q) = %d, %v", s, got, is)
		}
	}
}

// P7.2: the names of pages.
func TestName(t *testing.T) {
	for s, want := range map[string]string{"auto": "", "AUTO": "", " auTO ": "", "chap": "chap", "Chap": "Chap", " chap\n": "chap", "normal": "normal", "static": "static", "left": "left", "--": "--", "\u00c4": "\u00c4", `\31 x`: "1x", "autos": "autos", "aut\u00f6": "aut\u00f6"} {
		if got, is := value.Name(scan(t, s)); got != want || !is {
			t.Errorf("Name(%q) = %q, %v, want %q", s, got, is, want)
		}
	}
	for _, s := range []string{"a b", "auto auto", "auto a", "a auto", "a,", ",a", "a,b", "a 1", "(a)", "a)", "auto)", "a(", "a()", "running(a)", "a!", "a;", "a 'x\n", "auto,"} {
		if got, is := value.Name(scan(t, s)); got != "" || is {
			t.Errorf("Name(%q) = %q, %v", s, got, is)
		}
	}
	for _, s := range noNames {
		if got, is := value.Name(scan(t, s)); got != "" || is != (s == "Auto" || s == "auto") {
			t.Errorf("Name(%q) = %q, %v", s, got, is)
		}
	}
}

// P7.2: the names of running elements.
func TestRunning(t *testing.T) {
	for s, want := range map[string]string{"static": "", "STATIC": "", " Static ": "", "running(n)": "n", "RUNNING(N)": "N", " running( n ) ": "n", "running(/**/n)": "n", "running(static)": "static", "running(normal)": "normal", `runnin\47(\4e)`: "N", "running(\u00c4)": "\u00c4"} {
		if got, is := value.Running(scan(t, s)); got != want || !is {
			t.Errorf("Running(%q) = %q, %v, want %q", s, got, is, want)
		}
	}
	wrong := []string{"running(n", "running(n,)", "running(,n)", "running(n m)", "running(n,m)", "running(n,first)", "running(n))", "running(n) x", "running(n)running(n)", "running(n) static", "static static", "static running(n)", "x running(n)", "running(n) )", "running(n),", "running(n]", "running(n])", "running(running(n))", "running", "running n", "running (n)", "element(n)", "runnings(n)", "relative", "absolute", "fixed", "none", "auto", "initial", "n", "static()", "(static)", "'static'", "static,", "static)", "#static"}
	for _, name := range noNames {
		wrong = append(wrong, "running("+name+")")
	}
	for _, s := range wrong {
		if got, is := value.Running(scan(t, s)); got != "" || is {
			t.Errorf("Running(%q) = %q, %v", s, got, is)
		}
	}
}

// part is a part of a content list as a pattern, and its item by what the pattern finds.
type part struct {
	pattern *regexp.Regexp
	item    func(found []string) api.Item
}

const (
	aName  = `(c|normal|upper-roman|START) `
	aText  = `'(\.?)' `
	aStyle = `(?:, (upper-roman|none|NONE) )?`
	aWhich = `(?:, (START) )?`
)

// parts is those of a content list, by the chapter's words, where each token has a blank behind it, and Space is left out.
func parts(own bool) []part {
	style := func(name string) int { return styles[strings.ToLower(name)] }
	chosen := func(name string) int { return max(api.First, which[strings.ToLower(name)]) }
	compile := func(s string) *regexp.Regexp { return regexp.MustCompile("^" + s) }
	l := []part{
		{compile(aText), func(f []string) api.Item { return text(f[1]) }},
		{compile(`counter\( ` + aName + aStyle + `\) `), func(f []string) api.Item { return counter(f[1], style(f[2])) }},
		{compile(`COUNTERS\( ` + aName + `, ` + aText + aStyle + `\) `), func(f []string) api.Item { return counters(f[1], f[2], style(f[3])) }},
		{compile(`string\( ` + aName + aWhich + `\) `), func(f []string) api.Item { return named(f[1], chosen(f[2])) }},
		{compile(`element\( ` + aName + aWhich + `\) `), func(f []string) api.Item { return element(f[1], chosen(f[2])) }},
		{compile(`attr\( ` + aName + `\) `), func(f []string) api.Item { return attr(f[1]) }},
	}
	if own {
		l = append(l, part{compile(`content\( \) `), func([]string) api.Item { return whole() }})
	}
	return l
}

// wantedItems is the items of parts, and what is left behind them.
func wantedItems(s string, known []part) (l []api.Item, rest string) {
next:
	for _, p := range known {
		if found := p.pattern.FindStringSubmatch(s); found != nil {
			l, s = append(l, p.item(found)), s[len(found[0]):]
			goto next
		}
	}
	return l, s
}

// oracle is what the calls answer of words, by patterns.
type oracle struct {
	outer, own     []part
	name, counting *regexp.Regexp
}

func newOracle() oracle {
	return oracle{parts(false), parts(true), regexp.MustCompile("^" + aName), regexp.MustCompile("^" + aName + `(?:(5|-9) )?`)}
}

func (o oracle) content(s string) (l []api.Item, gone, is bool) {
	switch s {
	case "none ", "NONE ", "normal ":
		return nil, true, true
	}
	l, rest := wantedItems(s, o.outer)
	if rest != "" || len(l) == 0 {
		return nil, false, false
	}
	return l, false, true
}

func (o oracle) strings(s string) (l []api.Step, is bool) {
	if s == "none " || s == "NONE " {
		return nil, true
	}
	for {
		found := o.name.FindStringSubmatch(s)
		if found == nil {
			return nil, false
		}
		items, rest := wantedItems(s[len(found[0]):], o.own)
		if len(items) == 0 {
			return nil, false
		}
		l = append(l, set(found[1], items...))
		if rest == "" {
			return l, true
		}
		if !strings.HasPrefix(rest, ", ") {
			return nil, false
		}
		s = rest[2:]
	}
}

func (o oracle) steps(s string, usual int) (l []api.Step, is bool) {
	if s == "none " || s == "NONE " {
		return nil, true
	}
	for s != "" {
		found := o.counting.FindStringSubmatch(s)
		if found == nil {
			return nil, false
		}
		n := usual
		if found[2] != "" {
			n, _ = strconv.Atoi(found[2])
		}
		l, s = append(l, step(found[1], n)), s[len(found[0]):]
	}
	return l, len(l) > 0
}

// agree fails, unless the calls answer what the oracle does, of words with the gaps between.
func (o oracle) agree(t *testing.T, words []string, gap string) {
	var spaced strings.Builder
	for _, w := range words {
		if w != " " {
			spaced.WriteString(w + " ")
		}
	}
	s := strings.Join(words, gap)
	l, plain := scan(t, s), spaced.String()
	wanted, gone, is := o.content(plain)
	if got, gotGone, gotIs := value.Content(l); !slices.Equal(wanted, got) || gone != gotGone || is != gotIs {
		t.Fatalf("Content(%q) = %+v, %v, %v, want %+v, %v, %v", s, got, gotGone, gotIs, wanted, gone, is)
	}
	want, is := o.strings(plain)
	if got, gotIs := value.Strings(l); !sameSteps(want, got) || is != gotIs {
		t.Fatalf("Strings(%q) = %+v, %v, want %+v, %v", s, got, gotIs, want, is)
	}
	want, is = o.steps(plain, 7)
	if got, gotIs := value.Steps(l, 7); !sameSteps(want, got) || is != gotIs {
		t.Fatalf("Steps(%q) = %+v, %v, want %+v, %v", s, got, gotIs, want, is)
	}
}

// each calls try with all lists of up to so many words.
func each(words []string, most int, try func(l []string)) {
	var grow func(l []string)
	grow = func(l []string) {
		try(l)
		for _, w := range words {
			if len(l) < most {
				grow(append(slices.Clone(l), w))
			}
		}
	}
	grow(nil)
}

// P7.1: Content, Strings and Steps of all short lists of these words, held against patterns.
func TestAllShort(t *testing.T) {
	o := newOracle()
	try := func(l []string) { o.agree(t, l, "/**/") }
	each([]string{"'.'", "counter(", "COUNTERS(", "string(", "element(", "attr(", "content(", ")", "(", ",", "c", "none", "normal", "upper-roman", "START", "5", " "}, 3, try)
	each([]string{"counter(", "content(", "c", "none", ",", ")", "'.'"}, 5, try)
	each([]string{"string(", "START", ",", ")", "]"}, 6, try)
	each([]string{"c", "NONE", "5", "-9", "-9999999999", ",", "1px"}, 5, try)
}

// random is words that are mostly values, of which some have one or two words too many, too few or other ones.
func random(r *rand.Rand) []string {
	pick := func(l ...string) string { return l[r.Intn(len(l))] }
	name := func() string { return pick("c", "normal", "upper-roman", "START") }
	maybe := func(l ...string) []string { return l[:len(l)*r.Intn(2)] }
	part := func() []string {
		switch r.Intn(7) {
		case 0:
			return append(append([]string{"counter(", name()}, maybe(",", pick("upper-roman", "none"))...), ")")
		case 1:
			return append(append([]string{"COUNTERS(", name(), ",", "'.'"}, maybe(",", pick("upper-roman", "NONE"))...), ")")
		case 2, 3:
			return append(append([]string{pick("string(", "element("), name()}, maybe(",", "START")...), ")")
		case 4:
			return []string{"attr(", name(), ")"}
		case 5:
			return []string{"content(", ")"}
		}
		return []string{pick("'.'", "''")}
	}
	var l []string
	kind := r.Intn(3)
	for n := range 1 + r.Intn(4) {
		switch {
		case kind == 0:
			l = append(append(l, name()), maybe(pick("5", "-9"))...)
		case kind == 1 && n > 0 && r.Intn(2) == 0:
			l = append(l, ",", name())
		case kind == 1 && n == 0:
			l = append(l, name())
		}
		if kind > 0 {
			l = append(l, part()...)
		}
	}
	for range r.Intn(3) * r.Intn(2) {
		at := r.Intn(len(l))
		l = slices.Replace(l, at, at+r.Intn(2), maybe(pick(",", ")", "(", "c", "none", "'.'", "5", "0.5", "9999999999", "[", "]", "f(", "content(", "START", "1px"))...)
		if len(l) == 0 {
			break
		}
	}
	return l
}

// P7.1: Content, Strings and Steps of many long lists of words, with Space or without, held against patterns.
func TestMany(t *testing.T) {
	o := newOracle()
	r := rand.New(rand.NewSource(2))
	right := 0
	for range 60000 {
		l := random(r)
		o.agree(t, l, []string{"/**/", " ", "\n/**/ "}[r.Intn(3)])
		var plain strings.Builder
		for _, w := range l {
			plain.WriteString(w + " ")
		}
		_, _, content := o.content(plain.String())
		_, strung := o.strings(plain.String())
		_, stepped := o.steps(plain.String(), 0)
		if content || strung || stepped {
			right++
		}
	}
	if right < 20000 || right > 55000 {
		t.Errorf("%d of 60000 lists were values", right)
	}
}

// Every call ends, and none panics, of tokens that no text has; what is no value is zero.
func TestAnyTokens(t *testing.T) {
	r := rand.New(rand.NewSource(3))
	texts := []string{"", "none", "normal", "auto", "static", "c", "counter", "counters", "string", "element", "attr", "content", "running", "(", ")", "[", "]", "{", "}", "px", "\xff", "\x00", "first", "decimal"}
	numbers := []int{0, 0, 1000, -1, math.MaxInt, math.MinInt}
	for range 100000 {
		l := make([]api.Token, r.Intn(6))
		for k := range l {
			l[k] = api.Token{Kind: r.Intn(20) - 1, Text: texts[r.Intn(len(texts))], N: numbers[r.Intn(len(numbers))]}
			if r.Intn(3) == 0 {
				l[k].Kind = []int{api.Func, api.Close, api.Ident, api.Comma, api.String}[r.Intn(5)]
			}
		}
		kept := slices.Clone(l)
		items, gone, content := value.Content(l)
		set, strung := value.Strings(l)
		counted, stepped := value.Steps(l, numbers[r.Intn(len(numbers))])
		sides, long := value.Lengths(l)
		n, broken := value.Break(l)
		page, paged := value.Name(l)
		name, runs := value.Running(l)
		if !content && (items != nil || gone) || gone && items != nil || content && !gone && len(items) == 0 || !strung && set != nil || !stepped && counted != nil || !long && sides != nil || long && len(sides) != 4 || !broken && n != 0 || !paged && page != "" || !runs && name != "" {
			t.Fatalf("of %+v: Content %+v, %v, %v, Strings %+v, %v, Steps %+v, %v, Lengths %v, %v, Break %d, %v, Name %q, %v, Running %q, %v", l, items, gone, content, set, strung, counted, stepped, sides, long, n, broken, page, paged, name, runs)
		}
		if !slices.Equal(l, kept) {
			t.Fatalf("%+v became %+v", kept, l)
		}
	}
}

// P7.1, P7.2: an Ident of empty Text, which no text has, is a name like others.
func TestEmptyName(t *testing.T) {
	empty := []api.Token{{Kind: api.Ident}}
	if got, is := value.Name(empty); got != "" || !is {
		t.Errorf("Name = %q, %v", got, is)
	}
	if got, is := value.Steps(empty, 3); !is || !sameSteps(got, steps(step("", 3))) {
		t.Errorf("Steps = %+v, %v", got, is)
	}
	if got, is := value.Break(empty); got != 0 || is {
		t.Errorf("Break = %d, %v", got, is)
	}
	if got, gone, is := value.Content(empty); got != nil || gone || is {
		t.Errorf("Content = %+v, %v, %v", got, gone, is)
	}
}

// Memory: nothing that is handed in is changed, nor the room behind it, and no list of an answer is shared.
func TestMemory(t *testing.T) {
	const s = " a 'x' content() , b counter(c, none) attr(d) 'y' , c 'z'"
	list := scan(t, s)
	room := append(slices.Clone(list), api.Token{Kind: 77}, api.Token{Kind: 78}, api.Token{Kind: 79})
	kept := slices.Clone(room)
	given := room[:len(list)]
	first, _ := value.Strings(given)
	second, _ := value.Strings(given)
	value.Content(given)
	value.Steps(given, 1)
	value.Lengths(given)
	value.Break(given)
	value.Name(given)
	value.Running(given)
	if !slices.Equal(room, kept) {
		t.Errorf("handed in: %+v", room)
	}
	want := steps(set("a", text("x"), whole()), set("b", counter("c", 7), attr("d"), text("y")), set("c", text("z")))
	for k := range first { // one list after the other is written over, with the room behind it: the others stay
		l := first[k].Items[:cap(first[k].Items)]
		for at := range l {
			l[at] = api.Item{Kind: 99}
		}
		if !sameSteps(first[k+1:], want[k+1:]) {
			t.Errorf("list %d is shared: %+v", k, first)
		}
	}
	if !sameSteps(second, want) {
		t.Errorf("answers share: %+v", second)
	}
	lists := scan(t, "1px 2px")
	one, _ := value.Lengths(lists)
	clear(one[:cap(one)])
	if two, _ := value.Lengths(lists); !slices.Equal(two, []int{1000, 2000, 1000, 2000}) {
		t.Errorf("Lengths = %v", two)
	}
	content := scan(t, "'x' attr(a)")
	before, _, _ := value.Content(content)
	clear(content)
	if !slices.Equal(before, items(text("x"), attr("a"))) {
		t.Errorf("what was handed in is kept: %+v", before)
	}
}

// P7.1, P7.2: more tokens than a sheet may have.
func TestLong(t *testing.T) {
	tokens := slices.Repeat(scan(t, "'x' counter(c, none) "), 20000)
	if got, _, is := value.Content(tokens); !is || len(got) != 40000 {
		t.Errorf("Content: %d items, %v", len(got), is)
	}
	if got, is := value.Steps(slices.Repeat(scan(t, "a 1 "), 50000), 0); !is || len(got) != 50000 {
		t.Errorf("Steps: %d, %v", len(got), is)
	}
	if got, is := value.Strings(append(slices.Repeat(scan(t, "s content(),"), 30000), scan(t, "s 'x'")...)); !is || len(got) != 30001 {
		t.Errorf("Strings: %d, %v", len(got), is)
	}
	gaps := slices.Repeat(scan(t, " "), 100000)
	if got, is := value.Name(slices.Concat(gaps, scan(t, "n"), gaps)); got != "n" || !is {
		t.Errorf("Name: %q, %v", got, is)
	}
	if got, is := value.Lengths(slices.Repeat(scan(t, "0 "), 100000)); got != nil || is {
		t.Errorf("Lengths: %v, %v", got, is)
	}
}
