package num

import (
	"fmt"
	"math/big"
	"slices"
	"strings"
	"testing"
)

const top = 1<<64 - 1

// edges has numbers around the places where sums and products begin not to fit, and some with common divisors.
func edges() []uint64 {
	return []uint64{
		0, 1, 2, 3, 4, 6, 7, 10, 12, 97, 255, 256, 65537, 1e9, 1e10,
		1<<31 - 1, 1 << 31, 1<<32 - 1, 1 << 32, 1<<32 + 1, 1<<33 - 2,
		1<<62 + 1, 1<<63 - 1, 1 << 63, 1<<63 + 1, top - 2, top - 1, top, top / 3, top / 5,
	}
}

// lists has all lists of up to three edges.
func lists() [][]uint64 {
	all := [][]uint64{nil, {}}
	for _, a := range edges() {
		all = append(all, []uint64{a})
		for _, b := range edges() {
			all = append(all, []uint64{a, b})
			for _, c := range edges() {
				all = append(all, []uint64{a, b, c})
			}
		}
	}
	return all
}

func bigNumber(x uint64) *big.Int { return new(big.Int).SetUint64(x) }

// fitting is what a function returns whose result is x as an integer of any size.
func fitting(x *big.Int) (uint64, bool) {
	if !x.IsUint64() {
		return 0, false
	}
	return x.Uint64(), true
}

func bigSum(l []uint64) (uint64, bool) {
	sum := new(big.Int)
	for _, x := range l {
		sum.Add(sum, bigNumber(x))
	}
	return fitting(sum)
}

func bigProduct(l []uint64) (uint64, bool) {
	product := big.NewInt(1)
	for _, x := range l {
		product.Mul(product, bigNumber(x))
	}
	return fitting(product)
}

func bigMultiple(l []uint64) (uint64, bool) {
	multiple := big.NewInt(1)
	for _, x := range l {
		if x == 0 {
			return 0, false
		}
		divisor := new(big.Int).GCD(nil, nil, multiple, bigNumber(x))
		multiple.Mul(multiple, bigNumber(x))
		multiple.Div(multiple, divisor)
	}
	return fitting(multiple)
}

// checkFold compares a function with integers of any size, for all lists.
func checkFold(t *testing.T, call func(...uint64) (uint64, bool), want func([]uint64) (uint64, bool)) {
	t.Helper()
	for _, l := range lists() {
		before := slices.Clone(l)
		n, ok := call(l...)
		if !slices.Equal(before, l) {
			t.Fatalf("%v was changed to %v", before, l)
		}
		if wantN, wantOK := want(l); n != wantN || ok != wantOK {
			t.Errorf("%v: got %d, %v, want %d, %v", l, n, ok, wantN, wantOK)
		}
	}
}

// foldCase is a list with what a call returns for it.
type foldCase struct {
	l  []uint64
	n  uint64
	ok bool
}

func checkCases(t *testing.T, call func(...uint64) (uint64, bool), cases []foldCase) {
	t.Helper()
	for _, c := range cases {
		if n, ok := call(c.l...); n != c.n || ok != c.ok {
			t.Errorf("%v: got %d, %v, want %d, %v", c.l, n, ok, c.n, c.ok)
		}
	}
}

func repeat(x uint64, n int) []uint64 { return slices.Repeat([]uint64{x}, n) }

// P1.1
func TestAdd(t *testing.T) {
	checkCases(t, Add, []foldCase{
		{nil, 0, true},
		{[]uint64{7}, 7, true},
		{[]uint64{1, 2, 3, 4}, 10, true},
		{[]uint64{top}, top, true},
		{[]uint64{top - 1, 1}, top, true},
		{[]uint64{top, 0, 0}, top, true},
		{[]uint64{top, 1}, 0, false},
		{[]uint64{1, top}, 0, false},
		{[]uint64{top, 1, 5}, 0, false},
		{[]uint64{top, top, 2}, 0, false},
		{repeat(1<<63, 2), 0, false},
		{repeat(1, 1000), 1000, true},
	})
	checkFold(t, Add, bigSum)
}

// P1.1
func TestMul(t *testing.T) {
	checkCases(t, Mul, []foldCase{
		{nil, 1, true},
		{[]uint64{7}, 7, true},
		{[]uint64{0}, 0, true},
		{[]uint64{2, 3, 7}, 42, true},
		{[]uint64{1<<32 - 1, 1<<32 + 1}, top, true},
		{[]uint64{1 << 32, 1 << 32}, 0, false},
		{[]uint64{top, 2}, 0, false},
		{[]uint64{1 << 63, 2, 1}, 0, false},
		{repeat(2, 63), 1 << 63, true},
		{repeat(2, 64), 0, false},
	})
	checkFold(t, Mul, bigProduct)
}

// P1.1: a product with a zero fits, wherever the zero is.
func TestMulWithPartialProductThatDoesNotFit(t *testing.T) {
	for at := range 5 {
		l := slices.Insert(repeat(top, 4), at, 0)
		if n, ok := Mul(l...); n != 0 || !ok {
			t.Errorf("%v: got %d, %v", l, n, ok)
		}
	}
}

// P1.2
func TestLcm(t *testing.T) {
	checkCases(t, Lcm, []foldCase{
		{nil, 1, true},
		{[]uint64{1}, 1, true},
		{[]uint64{4, 6}, 12, true},
		{[]uint64{6, 4}, 12, true},
		{[]uint64{5, 5, 5}, 5, true},
		{[]uint64{2, 3, 5, 7, 6}, 210, true},
		{[]uint64{top, top}, top, true},
		{[]uint64{top, top / 3, 5}, top, true},
		{[]uint64{1 << 63, 1 << 62, 2}, 1 << 63, true},
		{[]uint64{1 << 63, 3}, 0, false},
		{[]uint64{top, 2}, 0, false},
		{[]uint64{top, top - 1}, 0, false},
		{[]uint64{0}, 0, false},
		{[]uint64{0, 0}, 0, false},
		{[]uint64{4, 0}, 0, false},
		{[]uint64{0, 4}, 0, false},
		{[]uint64{top, top - 1, 0}, 0, false},
	})
	checkFold(t, Lcm, bigMultiple)
}

// P1.2: the result is a multiple of all numbers, and no smaller number is one.
func TestLcmIsTheLeastMultiple(t *testing.T) {
	isMultiple := func(m, a, b, c uint64) bool { return m%a == 0 && m%b == 0 && m%c == 0 }
	for a := uint64(1); a <= 12; a++ {
		for b := uint64(1); b <= 12; b++ {
			for c := uint64(1); c <= 12; c++ {
				least := uint64(1)
				for !isMultiple(least, a, b, c) {
					least++
				}
				if n, ok := Lcm(a, b, c); n != least || !ok {
					t.Errorf("%d, %d, %d: got %d, %v, want %d", a, b, c, n, ok, least)
				}
			}
		}
	}
}

// P1.3
func TestDivides(t *testing.T) {
	for _, c := range []struct {
		a, b uint64
		want bool
	}{
		{3, 12, true}, {3, 13, false}, {12, 3, false}, {1, 0, true}, {5, 0, true}, {1, top, true},
		{top, 0, true}, {top, top, true}, {top, top - 1, false}, {top - 1, top, false}, {2, top, false}, {1 << 63, 1 << 63, true},
		{0, 0, false}, {0, 1, false}, {0, top, false},
	} {
		if got := Divides(c.a, c.b); got != c.want {
			t.Errorf("Divides(%d, %d): got %v", c.a, c.b, got)
		}
	}
}

// P1.4
func TestAlign(t *testing.T) {
	for _, c := range []struct {
		x, by, n uint64
		ok       bool
	}{
		{13, 8, 16, true}, {16, 8, 16, true}, {17, 8, 24, true}, {0, 8, 0, true}, {1, 8, 8, true}, {10, 3, 12, true},
		{7, 1, 7, true}, {top, 1, top, true}, {top, top, top, true}, {1, top, top, true}, {0, top, 0, true},
		{top - 1, 2, top - 1, true}, {top, 2, 0, false}, {top, 1 << 63, 0, false}, {1<<63 + 1, 1 << 63, 0, false}, {1 << 63, 1 << 63, 1 << 63, true},
		{top - 1, top, top, true}, {top, top - 1, 0, false}, {top - 7, 8, top - 7, true}, {top - 6, 8, 0, false},
		{0, 0, 0, false}, {5, 0, 0, false}, {top, 0, 0, false},
	} {
		if n, ok := Align(c.x, c.by); n != c.n || ok != c.ok {
			t.Errorf("Align(%d, %d): got %d, %v, want %d, %v", c.x, c.by, n, ok, c.n, c.ok)
		}
	}
}

// P1.4
func TestAlignAgreesWithIntegersOfAnySize(t *testing.T) {
	for _, x := range edges() {
		for _, by := range edges() {
			wantN, wantOK := uint64(0), false
			if by > 0 {
				steps := new(big.Int).Add(bigNumber(x), bigNumber(by-1))
				steps.Div(steps, bigNumber(by))
				wantN, wantOK = fitting(steps.Mul(steps, bigNumber(by)))
			}
			if n, ok := Align(x, by); n != wantN || ok != wantOK {
				t.Errorf("Align(%d, %d): got %d, %v, want %d, %v", x, by, n, ok, wantN, wantOK)
			}
		}
	}
}

// formCase is a number with its two forms.
type formCase struct {
	x            uint64
	decimal, hex string
}

func forms() []formCase {
	return []formCase{
		{0, "0", "0x0"}, {1, "1", "0x1"}, {9, "9", "0x9"}, {10, "10", "0xa"}, {15, "15", "0xf"}, {16, "16", "0x10"}, {31, "31", "0x1f"},
		{100, "100", "0x64"}, {0xabcdef, "11259375", "0xabcdef"}, {1 << 32, "4294967296", "0x100000000"},
		{1<<63 - 1, "9223372036854775807", "0x7fffffffffffffff"}, {1 << 63, "9223372036854775808", "0x8000000000000000"},
		{0x0123456789abcdef, "81985529216486895", "0x123456789abcdef"},
		{top - 1, "18446744073709551614", "0xfffffffffffffffe"}, {top, "18446744073709551615", "0xffffffffffffffff"},
	}
}

// P1.5
func TestForms(t *testing.T) {
	for _, c := range forms() {
		if got := Decimal(c.x); got != c.decimal {
			t.Errorf("Decimal(%d): got %q", c.x, got)
		}
		if got := Hex(c.x); got != c.hex {
			t.Errorf("Hex(%d): got %q", c.x, got)
		}
		for _, s := range []string{c.decimal, c.hex} {
			if n, ok := Parse(s); n != c.x || !ok {
				t.Errorf("Parse(%q): got %d, %v", s, n, ok)
			}
		}
	}
}

// P1.5: Parse inverts both forms.
func TestParseInvertsForms(t *testing.T) {
	numbers := edges()
	for x := range uint64(5000) {
		numbers = append(numbers, x, top-x, 1<<32+x)
	}
	for _, x := range numbers {
		if got, want := Decimal(x), fmt.Sprintf("%d", x); got != want {
			t.Errorf("Decimal(%d): got %q", x, got)
		}
		if got, want := Hex(x), fmt.Sprintf("%#x", x); got != want {
			t.Errorf("Hex(%d): got %q", x, got)
		}
		for _, s := range []string{Decimal(x), Hex(x)} {
			if n, ok := Parse(s); n != x || !ok {
				t.Errorf("Parse(%q): got %d, %v", s, n, ok)
			}
		}
	}
}

// P1.5: what is no form is no number.
func TestParseRejects(t *testing.T) {
	for _, s := range []string{
		"", " ", "x", "0x", "00", "01", "007", "0x00", "0x01", "0x0f", "00x1", "0x0x1", "x1", "0x-1", "0x+1", "0x 1", "0x_1",
		"0X1f", "0x1F", "0xABCDEF", "0XA", "1f", "a", "f", "0xg", "1x0", "0b1", "0o7", "1e3", "1.0", "0x1p0",
		"+1", "-1", "-0", " 1", "1 ", "1\n", "\t1", "0x1 ", "1\x00", "\x001", "1_000", "0x1_0", "1,000", "\"1\"",
		"18446744073709551616", "18446744073709551620", "28446744073709551615", "100000000000000000000", "018446744073709551615",
		"0x10000000000000000", "0xfffffffffffffffff", "0x0ffffffffffffffff",
		"\u0661", "\uff11", "0\uff581", "0x\uff11", "\xff", "1\xff",
		strings.Repeat("0", 1000), strings.Repeat("9", 1000), "0x" + strings.Repeat("0", 1000), "0x" + strings.Repeat("f", 1000),
	} {
		if n, ok := Parse(s); n != 0 || ok {
			t.Errorf("Parse(%q): got %d, %v", s, n, ok)
		}
	}
}

// P1.5: exactly the forms of numbers are accepted among all short strings of the characters that matter.
func TestParseAcceptsExactlyForms(t *testing.T) {
	texts := []string{""}
	for at := 0; at < len(texts); at++ {
		s := texts[at]
		n, ok := Parse(s)
		if form := ok && (s == Decimal(n) || s == Hex(n)); ok != form || ok != isForm(s) {
			t.Errorf("Parse(%q): got %d, %v", s, n, ok)
		}
		if len(s) < 5 {
			for _, c := range "019afgxXA_+- " {
				texts = append(texts, s+string(c))
			}
		}
	}
}

// isForm decides by the letter of the document, without numbers; s is too short to denote a number that does not fit.
func isForm(s string) bool {
	digits, set := s, "0123456789"
	if strings.HasPrefix(s, "0x") {
		digits, set = s[2:], "0123456789abcdef"
	}
	if digits == "" || strings.Trim(digits, set) != "" {
		return false
	}
	return digits == "0" || digits[0] != '0'
}
