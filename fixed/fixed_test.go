package fixed_test

import (
	"math"
	"math/big"
	"regexp"
	"strings"
	"testing"

	"broadside/api"
	"broadside/fixed"
)

const most = api.MaxFixed

// edges is numbers around everything that matters: 0, a thousandth, a whole, the bounds, and what an int can hold.
var edges = []int{
	0, 1, 2, 7, 9, 10, 99, 100, 101, 120, 500, 999, 1000, 1001, 1010, 1500, 1999, 2000, 123456, 31622776, 31622777,
	1<<31 - 1, 1 << 31, 1<<32 + 5, most/1000 - 1, most / 1000, most/1000 + 1, most/2 - 1, most / 2, most/2 + 1,
	most - 1, most, most + 1, 1 << 50, 1 << 62, math.MaxInt - 1, math.MaxInt,
}

// signed is the edges, and those below 0.
func signed() []int {
	l := []int{math.MinInt, math.MinInt + 1}
	for _, n := range edges {
		l = append(l, n, -n)
	}
	return l
}

// stopped is a great number, brought within the bounds.
func stopped(n *big.Int) int {
	bound := big.NewInt(most)
	if n.Cmp(bound) > 0 {
		return most
	}
	if n.Cmp(bound.Neg(bound)) < 0 {
		return -most
	}
	return int(n.Int64())
}

// P1.1: Stop.
func TestStop(t *testing.T) {
	for n, want := range map[int]int{
		0: 0, 1: 1, -1: -1, most: most, -most: -most, most - 1: most - 1, 1 - most: 1 - most,
		most + 1: most, -most - 1: -most, math.MaxInt: most, math.MinInt: -most,
	} {
		if got := fixed.Stop(n); got != want {
			t.Errorf("Stop(%d) = %d, want %d", n, got, want)
		}
	}
}

// P1.1: Add stops both, and the sum.
func TestAdd(t *testing.T) {
	for _, c := range []struct{ a, b, want int }{
		{1, 2, 3}, {1500, -1500, 0}, {most, 0, most}, {most, 1, most}, {most - 1, 1, most}, {-most, -1, -most},
		{1 - most, -1, -most}, {most, -most, 0}, {1 << 50, -1, most - 1}, {-1 << 50, 1, 1 - most},
		{math.MaxInt, math.MaxInt, most}, {math.MinInt, math.MinInt, -most}, {math.MaxInt, math.MinInt, 0},
	} {
		if got := fixed.Add(c.a, c.b); got != c.want {
			t.Errorf("Add(%d, %d) = %d, want %d", c.a, c.b, got, c.want)
		}
	}
	for _, a := range signed() {
		for _, b := range signed() {
			want := stopped(big.NewInt(int64(fixed.Stop(a) + fixed.Stop(b))))
			if got := fixed.Add(a, b); got != want {
				t.Errorf("Add(%d, %d) = %d, want %d", a, b, got, want)
			}
		}
	}
}

// P1.1: Mul stops both, drops what is less than a thousandth towards 0, and stops the product.
func TestMul(t *testing.T) {
	for _, c := range []struct{ a, b, want int }{
		{2000, 3000, 6000}, {1500, 1500, 2250}, {1500, -1500, -2250}, {-1500, -1500, 2250}, {0, -5, 0},
		{1, 999, 0}, {-1, 999, 0}, {1, 1000, 1}, {1, 1999, 1}, {-1, 1999, -1}, {999, 999, 998}, {-999, 999, -998},
		{most, 1000, most}, {-most, 1000, -most}, {most, 999, 1098412116148}, {most, 1001, most}, {most, most, most}, {most, -most, -most},
		{1 << 50, 500, most / 2}, {500, -1 << 50, -most / 2}, {math.MinInt, math.MinInt, most}, {math.MinInt, math.MaxInt, -most},
		{1 << 32, 1<<32 - 1, most}, {1 << 32, 1 << 32, most}, {-1 << 32, 1 << 32, -most}, {most, 1000 << 24, most}, // the product, in millionths, at 2^64 and 1000 times that
		{1 << 32, 256000, most}, {1 << 32, 255999, 1099507332808}, // 255999 thousandths of 2^32
	} {
		if got := fixed.Mul(c.a, c.b); got != c.want {
			t.Errorf("Mul(%d, %d) = %d, want %d", c.a, c.b, got, c.want)
		}
	}
	for _, a := range signed() {
		for _, b := range signed() {
			n := big.NewInt(int64(fixed.Stop(a)))
			n.Mul(n, big.NewInt(int64(fixed.Stop(b))))
			want := stopped(n.Quo(n, big.NewInt(1000)))
			if got := fixed.Mul(a, b); got != want {
				t.Errorf("Mul(%d, %d) = %d, want %d", a, b, got, want)
			}
		}
	}
}

// decimals is texts that are decimals, and their numbers.
func decimals() map[string]int {
	return map[string]int{
		"0": 0, "7": 7000, "+7": 7000, "-7": -7000, "007": 7000, "-0": 0, "+0.0": 0, "1.5": 1500, ".5": 500, "-.5": -500, "+.5": 500,
		"-.5e1": -5000, "1e3": 1000000, "1E3": 1000000, "1e+3": 1000000, "1e-3": 1, "1.5e0": 1500, "12.345e1": 123450, "12.345e-1": 1234, "12345e-4": 1234,

		"0.001": 1, "0.0019": 1, "-0.0019": -1, "0.0009999": 0, "-0.0009999": 0, "1e-4": 0, "9e-4": 0, "-9e-4": 0, "10e-4": 1, "1.2345": 1234, "-1.9999": -1999,

		"1099511627.775": most - 1, "1099511627.776": most, "1099511627.7769": most, "1099511627.777": most, "1099511628": most, "-1099511627.775": 1 - most, "-1099511627.776": -most, "-1099511627.777": -most,
		"10995116277.76e-1": most, ".1099511627775e10": most - 1, "99999999999": most, "-99999999999": -most, "9223372036854775807": most, "-9223372036854775808": -most, "18446744073709551616": most, "1e400": most, "-1e400": -most,

		"1e999999": most, "-1e999999": -most, "1e-999999": 0, "0e999999": 0, "1e9999999": most, "1e-9999999": 0, "-1e9999999": -most, "0e9999999": 0, "0.0e99999999999999999999": 0, "1e99999999999999999999": most, "1e-99999999999999999999": 0,
		"1e000001": 10000, "1e-000001": 100, "1e0000001": most, "1e+0000000": most, "5e-0000001": 0, "5e-0000000": 0, "0e0000001": 0,
		"0.0000000000005e13": 5000, "-0.0000000000005e13": -5000, "50000000000000e-13": 5000, "00012e0": 12000, "0.000": 0,
	}
}

// P1.1: Parse, and Length, of decimals.
func TestDecimals(t *testing.T) {
	for s, want := range decimals() {
		if n, is := fixed.Parse(s); n != want || !is {
			t.Errorf("Parse(%q) = %d, %t, want %d", s, n, is, want)
		}
		if n := fixed.Length(s); n != len(s) {
			t.Errorf("Length(%q) = %d", s, n)
		}
	}
}

// P1.1: Parse, and Length, of decimals longer than any number needs: all digits count, and places far apart are counted exactly.
func TestLongDecimals(t *testing.T) {
	noughts := strings.Repeat("0", 1<<20)
	near := strings.Repeat("0", 999996)
	for _, c := range []struct {
		s    string
		want int
	}{
		{noughts + "1.5", 1500}, {"1.5" + noughts, 1500}, {"1" + noughts, most}, {"-1" + noughts, -most}, {"0." + noughts + "1", 0},
		{noughts, 0}, {"-" + noughts + "." + noughts, 0}, {"1e" + noughts, most}, {"1e-" + noughts, 0},
		{"." + near + "005e999999", 5000}, {"." + near + "005e9999999", 5000}, {"." + near + "000005e999999", 5}, {"." + near + "0000005e999999", 0},
		{"5" + near + "000e-999999", 5000}, {"-5" + near + "000e-9999999", -5000}, {"5" + near + "e-999999", 5}, {"5" + near[1:] + "e-999999", 0}, {"5" + noughts + "e-999999", most},
	} {
		if n, is := fixed.Parse(c.s); n != c.want || !is {
			t.Errorf("Parse(%.20q.., %d bytes) = %d, %t, want %d", c.s, len(c.s), n, is, c.want)
		}
		if n := fixed.Length(c.s); n != len(c.s) {
			t.Errorf("Length(%.20q.., %d bytes) = %d", c.s, len(c.s), n)
		}
	}
}

// P1.1: Parse, and Length, of texts that are no decimals, though some begin with one.
func TestNoDecimals(t *testing.T) {
	for s, want := range map[string]int{
		"": 0, ".": 0, "+": 0, "-": 0, "+.": 0, "-.e1": 0, "e1": 0, ".e1": 0, "E": 0, "x": 0, "-x": 0, "--1": 0, "+-1": 0, " 1": 0, "..5": 0, "\x00": 0, "\xff1": 0, "٣": 0, "−1": 0, "１": 0, "/": 0, ":": 0,
		"1.": 1, "-1.": 2, "1.e5": 1, "1..5": 1, "1 ": 1, "1_0": 1, "1,5": 1, "0x10": 1, "1:": 1, "1/": 1, "1\x00": 1, "1٣": 1, "1+1": 1, "1-1": 1,
		"1e": 1, "1e+": 1, "1e-": 1, "1ex": 1, "12e-x": 2, "1e+-1": 1, "1e.5": 1, "1e 5": 1, "1em": 1,
		"1.5em": 3, "1.5.5": 3, ".5.5": 2, "+.5x": 3, "1e5e5": 3, "1e5.5": 3, "1.5e": 3, "1.5e+": 3, "-1.5e-2.": 7, "1E+2x": 4, "1.5%": 3, "1e9999999x": 9,
	} {
		if n, is := fixed.Parse(s); n != 0 || is {
			t.Errorf("Parse(%q) = %d, %t", s, n, is)
		}
		if n := fixed.Length(s); n != want {
			t.Errorf("Length(%q) = %d, want %d", s, n, want)
		}
	}
}

// P1.1: Parse, and Length, of all short texts of the characters that matter, held against a pattern and exact fractions.
func TestShortTexts(t *testing.T) {
	form := regexp.MustCompile(`^[+-]?([0-9]+|[0-9]*\.[0-9]+)([eE][+-]?[0-9]+)?`)
	form.Longest()
	var try func(s string)
	try = func(s string) {
		begin := form.FindString(s)
		if n := fixed.Length(s); n != len(begin) {
			t.Errorf("Length(%q) = %d, want %d", s, n, len(begin))
		}
		want, is := 0, begin != "" && begin == s
		if is {
			want = exact(s)
		}
		if n, got := fixed.Parse(s); n != want || got != is {
			t.Errorf("Parse(%q) = %d, %t, want %d, %t", s, n, got, want, is)
		}
		if len(s) < 7 {
			for _, c := range []string{"0", "8", ".", "+", "-", "e"} {
				try(s + c)
			}
		}
	}
	try("")
}

// exact is the number of a decimal, by exact fractions.
func exact(s string) int {
	r, ok := new(big.Rat).SetString(s)
	if !ok {
		panic("no fraction: " + s)
	}
	r.Mul(r, big.NewRat(1000, 1))
	return stopped(new(big.Int).Quo(r.Num(), r.Denom()))
}

// P1.2: Print.
func TestPrint(t *testing.T) {
	for n, want := range map[int]string{
		0: "0", 1: "0.001", 10: "0.01", 100: "0.1", 12: "0.012", 120: "0.12", 123: "0.123", 101: "0.101", 999: "0.999",
		1000: "1", 1001: "1.001", 1010: "1.01", 1500: "1.5", 10000: "10", 100000: "100", 120340: "120.34",
		-1: "-0.001", -10: "-0.01", -500: "-0.5", -999: "-0.999", -1000: "-1", -1500: "-1.5", -2010: "-2.01", -100000: "-100",
		most: "1099511627.776", -most: "-1099511627.776", most - 1: "1099511627.775", most + 1: "1099511627.776", -most - 1: "-1099511627.776",
		math.MaxInt: "1099511627.776", math.MinInt: "-1099511627.776",
	} {
		if s := fixed.Print(n); s != want {
			t.Errorf("Print(%d) = %q, want %q", n, s, want)
		}
	}
}

// P1.3: what is printed is a decimal, and parsed as it was.
func TestPrintedIsParsed(t *testing.T) {
	check := func(n int) {
		s := fixed.Print(n)
		if got, is := fixed.Parse(s); got != fixed.Stop(n) || !is {
			t.Errorf("Parse(Print(%d)) = Parse(%q) = %d, %t", n, s, got, is)
		}
		if got := fixed.Length(s); got != len(s) {
			t.Errorf("Length(Print(%d)) = Length(%q) = %d", n, s, got)
		}
	}
	for n := -12345; n <= 12345; n++ {
		check(n)
	}
	for n := 1; n <= most; n = n*3/2 + 1 {
		check(n)
		check(-n)
	}
	for _, n := range signed() {
		check(n)
	}
}
