package runes_test

import (
	"bytes"
	"math"
	"slices"
	"strings"
	"testing"

	"broadside/runes"
)

const (
	last        = 0x10FFFF // the last character
	replacement = 0xFFFD
)

// around is numbers at and beside every bound that the chapter names, and those far from any character.
func around() []rune {
	l := []rune{math.MinInt32, math.MinInt32 + 1, math.MaxInt32 - 1, math.MaxInt32}
	for _, c := range []rune{
		0, 9, 10, 12, 13, ' ', '-', '/', '0', '9', ':', '@', 'A', 'F', 'G', 'Z', '[', '\\', '_', '`', 'a', 'f', 'g', 'z', '{', 0x7F, 0x80, 0xA0,
		0xFF, 0x100, 0x130, 0x3B1, 0x660, 0x7FF, 0x800, 0x2028, 0x212A, 0x3000, 0xD7FF, 0xD800, 0xDBFF, 0xDC00, 0xDFFF, 0xE000, 0xFEFF, replacement, 0xFFFE,
		0xFFFF, 0x10000, 0xFFFFF, 0x100000, last, last + 1, 0x1FFFFF, 0x200000, 1<<26 - 1, 1 << 26, -last, -0xD800, -'a', -'0',
	} {
		l = append(l, c-1, c, c+1)
	}
	return l
}

// numbers goes through all numbers from below 0 to beyond the last character, and those around the bounds.
func numbers(yield func(rune) bool) {
	for c := rune(-0x1000); c <= last+0x1000; c++ {
		if !yield(c) {
			return
		}
	}
	for _, c := range around() {
		if !yield(c) {
			return
		}
	}
}

// isCharacter is the chapter's word of a character.
func isCharacter(c rune) bool {
	return 0 <= c && c < 0xD800 || 0xDFFF < c && c <= last
}

// staysItself tells of which characters reading makes no others.
func staysItself(c rune) bool {
	return isCharacter(c) && c != 0 && c != 12 && c != 13
}

// bytesOf is the bytes of a character, made bit by bit.
func bytesOf(c rune) []byte {
	more := func(shift int) byte { return 0x80 | byte(c>>shift)&0x3F }
	switch {
	case c < 0x80:
		return []byte{byte(c)}
	case c < 0x800:
		return []byte{0xC0 | byte(c>>6), more(0)}
	case c < 0x10000:
		return []byte{0xE0 | byte(c>>12), more(6), more(0)}
	}
	return []byte{0xF0 | byte(c>>18), more(12), more(6), more(0)}
}

// reader is all characters by their bytes, and all beginnings: what reading is held against.
type reader struct {
	whole  map[string]rune
	begins map[string]bool
}

func newReader() reader {
	r := reader{map[string]rune{}, map[string]bool{}}
	for c := range rune(last + 1) {
		if !isCharacter(c) {
			continue
		}
		b := bytesOf(c)
		r.whole[string(b)] = c
		for n := 1; n < len(b); n++ {
			r.begins[string(b[:n])] = true
		}
	}
	return r
}

// read is the characters of bytes, by the chapter's words, in two goes.
func (r reader) read(b []byte) []rune {
	var l []rune
	for at := 0; at < len(b); {
		c, size := r.first(b[at:])
		l = append(l, c)
		at += size
	}
	var lines []rune
	for at, c := range l {
		switch {
		case c == 10 && at > 0 && l[at-1] == 13:
		case c == 10 || c == 12 || c == 13:
			lines = append(lines, 10)
		case c == 0:
			lines = append(lines, replacement)
		default:
			lines = append(lines, c)
		}
	}
	return lines
}

// first is the first character of bytes, and its size.
func (r reader) first(b []byte) (rune, int) {
	size := 1
	for n := 1; n <= min(4, len(b)); n++ {
		if c, is := r.whole[string(b[:n])]; is {
			return c, n
		}
		if r.begins[string(b[:n])] {
			size = n
		}
	}
	return replacement, size
}

// P2.1: Read of what the chapter names.
func TestRead(t *testing.T) {
	const no = replacement
	for _, c := range []struct {
		b    string
		want []rune
	}{
		{"", nil}, {"a", []rune{'a'}}, {"a1 é€😀", []rune{'a', '1', ' ', 0xE9, 0x20AC, 0x1F600}},
		{"\x7F\xC2\x80\xDF\xBF", []rune{0x7F, 0x80, 0x7FF}}, {"\xE0\xA0\x80\xEF\xBF\xBF", []rune{0x800, 0xFFFF}}, {"\xF0\x90\x80\x80\xF4\x8F\xBF\xBF", []rune{0x10000, last}},
		{"\xED\x9F\xBF\xEE\x80\x80", []rune{0xD7FF, 0xE000}}, {"\xEF\xBF\xBD", []rune{no}}, {"\xEF\xBB\xBFa", []rune{0xFEFF, 'a'}}, {"e\xCC\x81", []rune{'e', 0x301}},

		// ends of lines, and 0
		{"\r\n", []rune{10}}, {"\r", []rune{10}}, {"\n", []rune{10}}, {"\f", []rune{10}}, {"\x00", []rune{no}}, {"\v\t\x1C\u0085\u2028", []rune{11, 9, 0x1C, 0x85, 0x2028}},
		{"\r\r\n", []rune{10, 10}}, {"\r\n\n", []rune{10, 10}}, {"\n\r", []rune{10, 10}}, {"\r\n\r\n", []rune{10, 10}}, {"\r\f\n", []rune{10, 10, 10}}, {"\f\n", []rune{10, 10}}, {"\f\r\n\f", []rune{10, 10, 10}},
		{"\r\x00\n", []rune{10, no, 10}}, {"\r\xFF\n", []rune{10, no, 10}}, {"a\rb\r\nc\n", []rune{'a', 10, 'b', 10, 'c', 10}}, {"a\x00b\x00\x00", []rune{'a', no, 'b', no, no}},

		// bytes with which none begins
		{"\x80", []rune{no}}, {"\xBF\xBF", []rune{no, no}}, {"\xC0", []rune{no}}, {"\xC0\xAF", []rune{no, no}}, {"\xC1\xBF", []rune{no, no}}, {"\xFE\xFF", []rune{no, no}},
		{"\xF5\x80\x80\x80", []rune{no, no, no, no}}, {"\xF8\x88\x80\x80\x80", []rune{no, no, no, no, no}}, {"a\x80b", []rune{'a', no, 'b'}}, {"é\x80", []rune{0xE9, no}},

		// the longest beginning is one, and what does not go on with it stands for itself
		{"\xC2", []rune{no}}, {"\xC2A", []rune{no, 'A'}}, {"\xC2\xC2\x80", []rune{no, 0x80}}, {"\xDF\xFF", []rune{no, no}}, {"\xC2\r\n", []rune{no, 10}}, {"\xC2\x00", []rune{no, no}},
		{"\xE2", []rune{no}}, {"\xE2\x82", []rune{no}}, {"\xE2\x82A", []rune{no, 'A'}}, {"\xE2\x82\xE2\x82\xAC", []rune{no, 0x20AC}}, {"\xE2\xE2\x82", []rune{no, no}}, {"\xE2\x82\xC0", []rune{no, no}},
		{"\xF0", []rune{no}}, {"\xF0\x9F", []rune{no}}, {"\xF0\x9F\x98", []rune{no}}, {"\xF0\x9F\x98A", []rune{no, 'A'}}, {"\xF0\x9FA", []rune{no, 'A'}}, {"\xF0\x9F\x98\xF0\x9F\x98\x80", []rune{no, 0x1F600}},
		{"\xF1\x80\x80\xE1\x80\xC2b\x80c", []rune{no, no, no, 'b', no, 'c'}},

		// too long a form, surrogates, and beyond the last one: no character's bytes begin so
		{"\xE0\x80\x80", []rune{no, no, no}}, {"\xE0\x9F\xBF", []rune{no, no, no}}, {"\xE0\xA0", []rune{no}}, {"\xF0\x80\x80\x80", []rune{no, no, no, no}}, {"\xF0\x8F\xBF\xBF", []rune{no, no, no, no}}, {"\xF0\x90", []rune{no}},
		{"\xED\xA0\x80", []rune{no, no, no}}, {"\xED\xBF\xBF", []rune{no, no, no}}, {"\xED\x9F", []rune{no}}, {"\xED\xA0\xBD\xED\xB8\x80", []rune{no, no, no, no, no, no}},
		{"\xF4\x90\x80\x80", []rune{no, no, no, no}}, {"\xF4\x8F\xBF", []rune{no}}, {"\xF4\x8F\xBFA", []rune{no, 'A'}}, {"\xF7\xBF\xBF\xBF", []rune{no, no, no, no}},
	} {
		if got := runes.Read([]byte(c.b)); !slices.Equal(got, c.want) {
			t.Errorf("Read(%x) = %x, want %x", c.b, got, c.want)
		}
	}
	if len(runes.Read(nil)) > 0 || len(runes.Read([]byte{})) > 0 {
		t.Error("Read of nothing is something")
	}
}

// P2.1: Read of all short lists of the bytes that matter, and of all pairs, held against the chapter's words.
func TestReadShort(t *testing.T) {
	r := newReader()
	check := func(b []byte) {
		if got, want := runes.Read(b), r.read(b); !slices.Equal(got, want) {
			t.Fatalf("Read(%x) = %x, want %x", b, got, want)
		}
	}
	var try func(b, of []byte, most int)
	try = func(b, of []byte, most int) {
		check(b)
		if len(b) < most {
			for _, c := range of {
				try(append(slices.Clip(b), c), of, most)
			}
		}
	}
	all := make([]byte, 256)
	for n := range all {
		all[n] = byte(n)
	}
	try(nil, all, 2)
	try(nil, []byte("\x00\n\f\rA\x7F\x80\x8F\x90\x9F\xA0\xBF\xC0\xC1\xC2\xDF\xE0\xE1\xEC\xED\xEF\xF0\xF1\xF3\xF4\xF5\xFF"), 4)
	try(nil, []byte("\n\r\x85\x9F\xA5\xC3\xE0\xED\xF0\xF4"), 5)
}

// P2.1: Read of every character's bytes, and of each of their beginnings, alone and ahead of another character.
func TestReadEvery(t *testing.T) {
	for c := range rune(last + 1) {
		if !staysItself(c) {
			continue
		}
		b := bytesOf(c)
		if got := runes.Read(append(b, b...)); !slices.Equal(got, []rune{c, c}) {
			t.Fatalf("Read(%x, twice) = %x", b, got)
		}
		for n := 1; n < len(b); n++ {
			if got := runes.Read(b[:n]); !slices.Equal(got, []rune{replacement}) {
				t.Fatalf("Read(%x) = %x", b[:n], got)
			}
			if got := runes.Read(append(slices.Clip(b[:n]), 'z')); !slices.Equal(got, []rune{replacement, 'z'}) {
				t.Fatalf("Read(%x, z) = %x", b[:n], got)
			}
		}
	}
}

// P2.1: Write of every number: of what is no character those of 0xFFFD.
func TestWrite(t *testing.T) {
	for c := range numbers {
		want := bytesOf(replacement)
		if isCharacter(c) {
			want = bytesOf(c)
		}
		if got := runes.Write([]rune{c}); !bytes.Equal(got, want) {
			t.Fatalf("Write(%#x) = %x, want %x", c, got, want)
		}
	}
	for _, c := range []struct {
		l    []rune
		want string
	}{
		{nil, ""}, {[]rune{}, ""}, {[]rune{0}, "\x00"}, {[]rune{0, 12, 13, 10}, "\x00\f\r\n"}, {[]rune{'a', 0xE9, 0x20AC, 0x1F600, 'b'}, "aé€😀b"},
		{[]rune{0x7F, 0x80, 0x7FF, 0x800, 0xFFFF, 0x10000, last}, "\x7F\xC2\x80\xDF\xBF\xE0\xA0\x80\xEF\xBF\xBF\xF0\x90\x80\x80\xF4\x8F\xBF\xBF"},
		{[]rune{0xD7FF, 0xD800, 0xE000}, "\xED\x9F\xBF\xEF\xBF\xBD\xEE\x80\x80"}, {[]rune{0xD83D, 0xDE00}, "\uFFFD\uFFFD"},
		{[]rune{'a', -1, 'b', last + 1, math.MinInt32, math.MaxInt32}, "a\uFFFDb\uFFFD\uFFFD\uFFFD"},
	} {
		if got := string(runes.Write(c.l)); got != c.want {
			t.Errorf("Write(%x) = %x, want %x", c.l, got, c.want)
		}
	}
}

// P2.1: Is.
func TestIs(t *testing.T) {
	for c := range numbers {
		if got := runes.Is(c); got != isCharacter(c) {
			t.Fatalf("Is(%#x) = %t", c, got)
		}
	}
}

// P2.2: Begins, Within, White and Digit of every number: below 0x80 by lists, from there on by what is a character.
func TestClasses(t *testing.T) {
	const letters = "abcdefghijklmnopqrstuvwxyzABCDEFGHIJKLMNOPQRSTUVWXYZ"
	in := func(list string, c rune) bool {
		return 0 <= c && c < 0x80 && strings.IndexByte(list, byte(c)) >= 0
	}
	for c := range numbers {
		high := c >= 0x80 && isCharacter(c)
		for _, class := range []struct {
			name      string
			got, want bool
		}{
			{"Begins", runes.Begins(c), high || in(letters+"_", c)},
			{"Within", runes.Within(c), high || in(letters+"_-0123456789", c)},
			{"White", runes.White(c), in("\t\n ", c)},
			{"Digit", runes.Digit(c), in("0123456789", c)},
		} {
			if class.got != class.want {
				t.Fatalf("%s(%#x) = %t", class.name, c, class.got)
			}
		}
	}
}

// P2.2: Hex of every number.
func TestHex(t *testing.T) {
	want := map[rune]int{}
	for n, c := range "0123456789abcdef" {
		want[c] = n
	}
	for n, c := range "ABCDEF" {
		want[c] = 10 + n
	}
	for c := range numbers {
		n, is := want[c]
		if !is {
			n = -1
		}
		if got := runes.Hex(c); got != n {
			t.Fatalf("Hex(%#x) = %d, want %d", c, got, n)
		}
	}
}

// P2.2: Lower: great letters of A to Z alone change, whatever the other bytes are.
func TestLower(t *testing.T) {
	for s, want := range map[string]string{
		"": "", "a": "a", "ABCDEFGHIJKLMNOPQRSTUVWXYZ": "abcdefghijklmnopqrstuvwxyz", "abcxyz": "abcxyz", "Margin-Top_1": "margin-top_1", "@[`{": "@[`{", "!Important": "!important",
		"ÉA": "Éa", "\u212AK": "\u212Ak", "İI": "İi", "ΣS": "Σs", "ſS": "ſs", "Ａ": "Ａ",
		"\xFFA\xC0Z\x80": "\xFFa\xC0z\x80", "\xE2\x82A": "\xE2\x82a", "\x00\r\n\fB": "\x00\r\n\fb", "\xED\xA0\x80Q": "\xED\xA0\x80q",
	} {
		if got := runes.Lower(s); got != want {
			t.Errorf("Lower(%q) = %q, want %q", s, got, want)
		}
	}
	for n := range 256 {
		want := byte(n)
		if at := strings.IndexByte("ABCDEFGHIJKLMNOPQRSTUVWXYZ", want); at >= 0 {
			want = "abcdefghijklmnopqrstuvwxyz"[at]
		}
		if got := runes.Lower(string([]byte{'x', byte(n), 'Y'})); got != string([]byte{'x', want, 'y'}) {
			t.Errorf("Lower of byte %#x = %q", n, got)
		}
	}
}

// P2.3: characters but 0, 12 and 13, written and read, are themselves: each one, all in a row both ways, and pairs.
func TestWrittenIsRead(t *testing.T) {
	check := func(l ...rune) {
		if got := runes.Read(runes.Write(l)); !slices.Equal(got, l) {
			t.Fatalf("Read(Write(%.40x)) = %.40x", l, got)
		}
	}
	var all, some []rune
	for c := range rune(last + 1) {
		if staysItself(c) {
			check(c)
			all = append(all, c)
		}
	}
	check(all...)
	slices.Reverse(all)
	check(all...)
	check()
	for _, c := range around() {
		if staysItself(c) {
			some = append(some, c)
		}
	}
	for _, a := range some {
		for _, b := range some {
			check(a, b, a)
		}
	}
	for c, want := range map[rune]rune{0: replacement, 12: 10, 13: 10} {
		if got := runes.Read(runes.Write([]rune{'a', c, 'b'})); !slices.Equal(got, []rune{'a', want, 'b'}) {
			t.Errorf("Read(Write(a, %#x, b)) = %x", c, got)
		}
	}
}

// Memory: what is handed in stays as it is, the room behind its end too, and an answer shares nothing with it, nor with another answer.
func TestMemory(t *testing.T) {
	b := []byte("a\r\n\x00\f\xE2\x82\xE2\x82\xAC..")
	kept := bytes.Clone(b)
	l := runes.Read(b[:len(b)-2])
	again := runes.Read(b[:len(b)-2])
	want := []rune{'a', 10, replacement, 10, replacement, 0x20AC}
	overwrite(l, 'x')
	overwrite(runes.Read(b[:0]), 'x')
	if !bytes.Equal(b, kept) || !slices.Equal(again, want) {
		t.Errorf("Read: %x, %x", b, again)
	}
	overwrite(b, 'x')
	if !slices.Equal(again, want) {
		t.Errorf("Read keeps its bytes: %x", again)
	}

	r := []rune{'a', -1, 0x20AC, '.', '.'}
	old := slices.Clone(r)
	w := runes.Write(r[:3])
	twice := runes.Write(r[:3])
	overwrite(w, 'x')
	overwrite(runes.Write(r[:0]), 'x')
	if !slices.Equal(r, old) || string(twice) != "a\uFFFD€" {
		t.Errorf("Write: %x, %x", r, twice)
	}
	overwrite(r, 'x')
	if string(twice) != "a\uFFFD€" {
		t.Errorf("Write keeps its characters: %x", twice)
	}
}

// overwrite changes all of a list, its spare room too.
func overwrite[T byte | rune](l []T, to T) {
	l = l[:cap(l)]
	for n := range l {
		l[n] = to
	}
}
