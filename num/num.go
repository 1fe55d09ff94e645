// Package num is layer 1; see shared/doc/01-num.md.
package num

import (
	"math/bits"
	"slices"
	"strconv"
	"strings"
)

// number has the steps of the folds as methods; each returns false if its result does not fit.
type number uint64

func (a number) plus(b number) (number, bool) {
	sum, carry := bits.Add64(uint64(a), uint64(b), 0)
	return number(sum), carry == 0
}

func (a number) times(b number) (number, bool) {
	high, low := bits.Mul64(uint64(a), uint64(b))
	return number(low), high == 0
}

// multiple is the step of Lcm; a is greater than 0. The only multiple of 0 is 0, so b = 0 has no result.
func (a number) multiple(b number) (number, bool) {
	if b == 0 {
		return 0, false
	}
	// The division comes first, so that only the result has to fit.
	return (a / a.divisor(b)).times(b)
}

// divisor returns the greatest common divisor by Euclid's algorithm.
func (a number) divisor(b number) number {
	for b != 0 {
		a, b = b, a%b
	}
	return a
}

// fold stops at the first step without a result. A caller must know that no later number could make the whole fit again.
func fold(step func(a, b number) (number, bool), start number, l []uint64) (uint64, bool) {
	result := start
	for _, x := range l {
		next, ok := step(result, number(x))
		if !ok {
			return 0, false
		}
		result = next
	}
	return uint64(result), true
}

// Add returns a sum.
func Add(l ...uint64) (uint64, bool) { return fold(number.plus, 0, l) }

// Mul returns a product.
func Mul(l ...uint64) (uint64, bool) {
	// A zero is the only number that makes a product fit whose partial product does not.
	if slices.Contains(l, 0) {
		return 0, true
	}
	return fold(number.times, 1, l)
}

// Lcm returns the least common multiple.
func Lcm(l ...uint64) (uint64, bool) { return fold(number.multiple, 1, l) }

// Divides reports whether a number divides another one.
func Divides(a, b uint64) bool { return a > 0 && b%a == 0 }

// Align returns the least multiple that is not less than a number.
func Align(x, by uint64) (uint64, bool) {
	if by == 0 {
		return 0, false
	}
	rest := x % by
	if rest == 0 {
		return x, true
	}
	return Add(x, by-rest)
}

// Parse returns the number that a string denotes.
func Parse(s string) (uint64, bool) {
	if digits, ok := strings.CutPrefix(s, "0x"); ok {
		return exact(s, digits, 16, Hex)
	}
	return exact(s, s, 10, Decimal)
}

// exact compares s with the form of its number, because ParseUint also takes leading zeros and capital letters, which no form has.
func exact(s, digits string, base int, form func(uint64) string) (uint64, bool) {
	x, err := strconv.ParseUint(digits, base, 64)
	if err != nil || form(x) != s {
		return 0, false
	}
	return x, true
}

// Decimal returns the decimal form of a number.
func Decimal(x uint64) string { return strconv.FormatUint(x, 10) }

// Hex returns the hexadecimal form of a number.
func Hex(x uint64) string { return "0x" + strconv.FormatUint(x, 16) }
