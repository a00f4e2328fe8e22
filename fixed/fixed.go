// Package fixed is layer 1: numbers in thousandths, that stop at a bound: see shared/doc/01-fixed.md.
package fixed

import (
	"math/bits"
	"strconv"
	"strings"

	"broadside/api"
)

const (
	unit           = 1000   // thousandths in a whole
	unitDigits     = 3      // noughts of unit
	exponentDigits = 6      // an exponent of more digits counts as exponentMost
	exponentMost   = 999999 // the greatest exponent
)

// Stop is a number, stopped.
func Stop(n int) int {
	return max(-api.MaxFixed, min(n, api.MaxFixed))
}

// Add is a sum.
func Add(a, b int) int {
	return Stop(Stop(a) + Stop(b))
}

// Mul is a product.
func Mul(a, b int) int {
	a, b = Stop(a), Stop(b)
	n := product(max(a, -a), max(b, -b))
	if (a < 0) != (b < 0) {
		return -n
	}
	return n
}

// product is the product of two numbers that are not below 0. One that goes beyond 64 bits is beyond the bound, divided by unit, too.
func product(a, b int) int {
	high, low := bits.Mul64(uint64(a), uint64(b))
	if high > 0 {
		return api.MaxFixed
	}
	return int(min(low/unit, api.MaxFixed))
}

// Length is how many bytes the longest decimal has.
func Length(s string) int {
	return split(s).end
}

// Parse is the number of a decimal.
func Parse(s string) (int, bool) {
	p := split(s)
	if p.end == 0 || p.end < len(s) {
		return 0, false
	}
	places := p.whole - p.sign + exponent(s[p.digits:]) + unitDigits
	n := leading(digitsOf(s, p), p.digits-p.sign, places)
	if s[0] == '-' {
		return -n, true
	}
	return n, true
}

// Print is a number's text.
func Print(n int) string {
	n = Stop(n)
	sign := ""
	if n < 0 {
		sign, n = "-", -n
	}
	text := sign + strconv.Itoa(n/unit)
	if n%unit == 0 {
		return text
	}
	digits := strconv.Itoa(unit + n%unit)[1:] // the 1 ahead keeps the noughts at the beginning
	return text + "." + strings.TrimRight(digits, "0")
}

// parts is the places where the parts of a decimal end: its sign, its whole digits, all its digits with the point, and all of it (0: there is no decimal).
type parts struct {
	sign, whole, digits, end int
}

// split is the parts of the longest decimal with which a text begins.
func split(s string) parts {
	sign := afterSign(s, 0)
	whole := afterDigits(s, sign)
	digits := whole
	if whole < len(s) && s[whole] == '.' {
		if to := afterDigits(s, whole+1); to > whole+1 {
			digits = to
		}
	}
	if digits == sign {
		return parts{}
	}
	end := digits
	if digits < len(s) && (s[digits] == 'e' || s[digits] == 'E') {
		from := afterSign(s, digits+1)
		if to := afterDigits(s, from); to > from {
			end = to
		}
	}
	return parts{sign, whole, digits, end}
}

// afterSign is the place behind a sign, if one stands at a place, else that place.
func afterSign(s string, at int) int {
	if at < len(s) && (s[at] == '+' || s[at] == '-') {
		return at + 1
	}
	return at
}

// afterDigits is the place behind all digits that stand from a place on.
func afterDigits(s string, at int) int {
	for at < len(s) && '0' <= s[at] && s[at] <= '9' {
		at++
	}
	return at
}

// exponent is what the end of a decimal, from its e on, says; 0, if it is empty.
func exponent(s string) int {
	if s == "" {
		return 0
	}
	from := afterSign(s, 1)
	n := exponentMost
	if len(s)-from <= exponentDigits {
		n, _ = strconv.Atoi(s[from:])
	}
	if s[1] == '-' {
		return -n
	}
	return n
}

// digitsOf tells which digit stands at a place of a decimal, the first one at 0, as if there were no point; noughts go on behind the last one.
func digitsOf(s string, p parts) func(place int) int {
	return func(place int) int {
		at := p.sign + place
		if at >= p.whole {
			at++ // the point stands there
		}
		if at >= p.digits {
			return 0
		}
		return int(s[at] - '0')
	}
}

// leading is the number that the first places of digits make, stopped. From given on there are noughts alone: so a nought up to there stays one, however many places are asked for.
func leading(digit func(place int) int, given, places int) int {
	n := 0
	for place := 0; place < places && (n > 0 || place < given); place++ {
		n = n*10 + digit(place)
		if n > api.MaxFixed {
			return api.MaxFixed
		}
	}
	return n
}
