package crc

import (
	"bytes"
	"encoding/binary"
	"hash/crc32"
	"math"
	"math/rand"
	"slices"
	"testing"
)

// samples are bytes of many lengths; a fixed seed makes every run the same.
func samples() [][]byte {
	source := rand.New(rand.NewSource(2))
	all := [][]byte{nil, {}, []byte("a"), []byte("123456789"), []byte("FNST"), bytes.Repeat([]byte{0}, 40), bytes.Repeat([]byte{255}, 40)}
	for _, n := range []int{1, 2, 3, 4, 5, 7, 8, 9, 31, 32, 33, 80, 84, 116, 255, 256, 257, 1000, 5000} {
		b := make([]byte, n)
		source.Read(b)
		all = append(all, b)
	}
	return all
}

// sumByBits calculates by the letter of the document, without a table that is stored.
func sumByBits(b []byte) uint32 {
	register := uint32(0xFFFFFFFF)
	for _, x := range b {
		register = register>>8 ^ element((register&0xFF)^uint32(x))
	}
	return ^register
}

func element(i uint32) uint32 {
	for range 8 {
		out := i & 1
		i >>= 1
		if out == 1 {
			i ^= 0xEDB88320
		}
	}
	return i
}

// roomy returns a copy of b with spare capacity, and the bytes beyond its length.
func roomy(b []byte) ([]byte, []byte) {
	all := append(slices.Clone(b), "beyond the length"...)
	return all[:len(b)], all[len(b):]
}

func checkUntouched(t *testing.T, b, before, beyond []byte) {
	t.Helper()
	if !bytes.Equal(b, before) || string(beyond) != "beyond the length" {
		t.Errorf("the argument %x was changed to %x, and what follows it to %q", before, b, beyond)
	}
}

// P2.1
func TestTable(t *testing.T) {
	table := Table()
	for i, x := range table {
		if want := element(uint32(i)); x != want || x != crc32.IEEETable[i] {
			t.Errorf("element %d: got %#x, want %#x", i, x, want)
		}
	}
	for i, want := range map[int]uint32{0: 0, 1: 0x77073096, 2: 0xEE0E612C, 127: 0xC0BA6CAD, 128: 0xEDB88320, 254: 0x5A05DF1B, 255: 0x2D02EF8D} {
		if table[i] != want {
			t.Errorf("element %d: got %#x, want %#x", i, table[i], want)
		}
	}
}

// P2.1
func TestSum(t *testing.T) {
	for s, want := range map[string]uint32{
		"": 0, "123456789": 0xCBF43926, "a": 0xE8B7BE43, "abc": 0x352441C2, "\x00": 0xD202EF8D, "\xff": 0xFF000000,
		"\x00\x00\x00\x00": 0x2144DF1C, "\xff\xff\xff\xff": 0xFFFFFFFF, "The quick brown fox jumps over the lazy dog": 0x414FA339,
	} {
		if got := Sum([]byte(s)); got != want {
			t.Errorf("Sum(%q): got %#x, want %#x", s, got, want)
		}
	}
	for _, sample := range samples() {
		b, beyond := roomy(sample)
		if got, want := Sum(b), sumByBits(sample); got != want || got != crc32.ChecksumIEEE(sample) {
			t.Errorf("Sum(%x): got %#x, want %#x", sample, got, want)
		}
		checkUntouched(t, b, sample, beyond)
	}
}

// P2.1: the parts count in their order, and empty ones do not matter.
func TestSumOfParts(t *testing.T) {
	for i, got := range []uint32{Sum(), Sum(nil), Sum([]byte{}), Sum(nil, []byte{}, nil)} {
		if got != 0 {
			t.Errorf("no bytes, %d: got %#x", i, got)
		}
	}
	b := []byte("123456789")
	for i := range len(b) + 1 {
		for j := i; j <= len(b); j++ {
			if got := Sum(b[:i], nil, b[i:j], []byte{}, b[j:]); got != 0xCBF43926 {
				t.Errorf("parts at %d and %d: got %#x", i, j, got)
			}
		}
	}
	single := make([][]byte, len(b))
	for i := range b {
		single[i] = b[i : i+1]
	}
	if got := Sum(single...); got != 0xCBF43926 {
		t.Errorf("parts of one byte: got %#x", got)
	}
	if Sum([]byte("ab"), []byte("c")) == Sum([]byte("c"), []byte("ab")) {
		t.Error("the order of parts does not matter")
	}
}

// P2.2
func TestJoin(t *testing.T) {
	for _, b := range samples() {
		for _, at := range []int{0, 1, 2, 3, 4, 5, 8, 16, 100, len(b) / 2, len(b) - 1, len(b)} {
			if at < 0 || at > len(b) {
				continue
			}
			first, second := b[:at], b[at:]
			if got, want := Join(Sum(first), Sum(second), len(second)), Sum(b); got != want {
				t.Errorf("%d and %d bytes: got %#x, want %#x", len(first), len(second), got, want)
			}
		}
	}
	if got := Join(Sum([]byte("1234")), Sum([]byte("56789")), 5); got != 0xCBF43926 {
		t.Errorf("got %#x", got)
	}
}

// P2.2: no bytes are added, so their checksum is 0.
func TestJoinWithoutBytes(t *testing.T) {
	for _, a := range []uint32{0, 1, 0xCBF43926, 1 << 31, math.MaxUint32} {
		if got := Join(a, 0, 0); got != a {
			t.Errorf("Join(%#x, 0, 0): got %#x", a, got)
		}
	}
}

// P2.2
func TestJoinWithNegativeNumber(t *testing.T) {
	for _, n := range []int{-1, -2, -4, -256, math.MinInt32, math.MinInt + 1, math.MinInt} {
		for _, a := range []uint32{0, 5, 0xCBF43926, math.MaxUint32} {
			if got := Join(a, 7, n); got != 0 {
				t.Errorf("Join(%#x, 7, %d): got %#x", a, n, got)
			}
		}
	}
}

// P2.2: many bytes, of which the checksum is known.
func TestJoinOfManyBytes(t *testing.T) {
	b := make([]byte, 1<<21+3)
	rand.New(rand.NewSource(3)).Read(b)
	want := crc32.ChecksumIEEE(b)
	for _, n := range []int{1 << 16, 1<<16 - 1, 1 << 20, 1<<20 + 1, 1 << 21, len(b)} {
		at := len(b) - n
		if got := Join(crc32.ChecksumIEEE(b[:at]), crc32.ChecksumIEEE(b[at:]), n); got != want {
			t.Errorf("%d bytes: got %#x, want %#x", n, got, want)
		}
	}
}

// P2.2: the polynomial is primitive, so 2^32 - 1 more bytes move the first checksum to the same place.
func TestJoinOfMoreBytesThanAnyTestCanHave(t *testing.T) {
	const period = 1<<32 - 1
	for _, a := range []uint32{0, 1, 0xCBF43926, 1 << 31, math.MaxUint32} {
		for _, n := range []int{0, 1, 2, 100, 255, 256, 1 << 20} {
			for _, periods := range []int{1, 2, 100, 255, 256} {
				long := n + periods*period
				if got, want := Join(a, 9, long), Join(a, 9, n); long <= 1<<40 && got != want {
					t.Errorf("Join(%#x, 9, %d): got %#x, want %#x", a, long, got, want)
				}
			}
		}
		if got, want := Join(a, 9, 1<<40), Join(a, 9, 256); got != want {
			t.Errorf("Join(%#x, 9, 2^40): got %#x, want %#x", a, got, want)
		}
	}
}

// P2.2: three parts have the same checksum, whichever two are joined first.
func TestJoinIsAssociative(t *testing.T) {
	a, b, c := uint32(0x12345678), uint32(0xCBF43926), uint32(0xFEDCBA98)
	for _, n := range []int{1, 9, 1 << 20, 1<<31 - 1, 1 << 31, 1<<32 - 1, 1 << 32, 1<<39 - 1, 1 << 39} {
		for _, m := range []int{1, 9, 1 << 20, 1<<31 - 1, 1 << 32, 1 << 39} {
			if left, right := Join(Join(a, b, n), c, m), Join(a, Join(b, c, m), n+m); left != right {
				t.Errorf("%d and %d bytes: %#x and %#x", n, m, left, right)
			}
		}
	}
}

// P1: numbers beyond what is specified end, too.
func TestJoinEnds(t *testing.T) {
	for _, n := range []int{1<<40 + 1, 1 << 62, math.MaxInt - 1, math.MaxInt} {
		Join(0xCBF43926, 7, n)
	}
}

// P2.3
func TestSeal(t *testing.T) {
	for s, want := range map[string]string{
		"": "\x00\x00\x00\x00", "123456789": "123456789\x26\x39\xF4\xCB", "a": "a\x43\xBE\xB7\xE8", "\x00\x00\x00\x00": "\x00\x00\x00\x00\x1C\xDF\x44\x21",
	} {
		if got := Seal([]byte(s)); string(got) != want {
			t.Errorf("Seal(%q): got %q, want %q", s, got, want)
		}
	}
	for _, sample := range samples() {
		b, beyond := roomy(sample)
		got := Seal(b)
		if want := binary.LittleEndian.AppendUint32(slices.Clone(sample), sumByBits(sample)); !bytes.Equal(got, want) {
			t.Errorf("Seal(%x): got %x, want %x", sample, got, want)
		}
		checkUntouched(t, b, sample, beyond)
		clear(got)
		checkUntouched(t, b, sample, beyond)
	}
}

// P2.3: results of the same argument share no memory.
func TestSealReturnsNewMemory(t *testing.T) {
	b := []byte("123456789")
	one, two := Seal(b), Seal(b)
	clear(one)
	if string(two) != "123456789\x26\x39\xF4\xCB" {
		t.Errorf("got %q", two)
	}
}

// P2.3
func TestSealed(t *testing.T) {
	for s, want := range map[string]bool{
		"\x00\x00\x00\x00": true, "123456789\x26\x39\xF4\xCB": true, "a\x43\xBE\xB7\xE8": true, "\xff\xff\xff\xff\xff\xff\xff\xff": true,
		"": false, "\x00": false, "\x00\x00": false, "\x00\x00\x00": false, "abc": false, "\x00\x00\x00\x01": false, "\x01\x00\x00\x00": false,
		"\x00\x00\x00\x00\x00": false, "\x00\x00\x00\x00\x00\x00\x00\x00": false, "123456789\xCB\xF4\x39\x26": false, "123456789": false,
		"123456789\x26\x39\xF4\xCB\x00": false, "\x26\x39\xF4\xCB123456789": false, "123456789\x26\x39\xF4": false,
	} {
		if got := Sealed([]byte(s)); got != want {
			t.Errorf("Sealed(%q): got %v", s, got)
		}
	}
	if Sealed(nil) {
		t.Error("no bytes are sealed")
	}
	for _, sample := range samples() {
		b, beyond := roomy(Seal(sample))
		if !Sealed(b) {
			t.Errorf("%x is not sealed", b)
		}
		checkUntouched(t, b, Seal(sample), beyond)
		if got, want := Sealed(sample), len(sample) >= 4 && bytes.Equal(sample, Seal(sample[:len(sample)-4])); got != want {
			t.Errorf("Sealed(%x): got %v", sample, got)
		}
	}
}

// P2.3: exactly one checksum seals bytes; every other byte in its place does not.
func TestSealedAcceptsOneChecksum(t *testing.T) {
	want := Seal([]byte("123456789"))
	for at := 9; at < 13; at++ {
		b := slices.Clone(want)
		for x := range 256 {
			b[at] = byte(x)
			if got := Sealed(b); got != (b[at] == want[at]) {
				t.Errorf("byte %d is %#x: got %v", at, x, got)
			}
		}
	}
}

// P2.4
func TestForge(t *testing.T) {
	for _, sample := range samples() {
		for _, at := range []int{0, 1, 2, 3, 4, 5, 29, len(sample) / 2, len(sample) - 6, len(sample) - 5, len(sample) - 4} {
			if at < 0 || at > len(sample)-4 {
				continue
			}
			for _, sum := range []uint32{0, 1, 0xCBF43926, 0x2144DF1C, 1 << 31, math.MaxUint32} {
				checkForged(t, sample, at, sum)
			}
		}
	}
}

func checkForged(t *testing.T, sample []byte, at int, sum uint32) {
	t.Helper()
	b, beyond := roomy(sample)
	got, ok := Forge(b, at, sum)
	if !ok || len(got) != len(b) {
		t.Fatalf("Forge(%x, %d, %#x): got %x, %v", sample, at, sum, got, ok)
	}
	if sumByBits(got) != sum || !bytes.Equal(got[:at], sample[:at]) || !bytes.Equal(got[at+4:], sample[at+4:]) {
		t.Errorf("Forge(%x, %d, %#x): got %x with the checksum %#x", sample, at, sum, got, sumByBits(got))
	}
	clear(got)
	checkUntouched(t, b, sample, beyond)
}

// P2.4: there is exactly one result, so the bytes with this checksum come back, whatever stood at the offset.
func TestForgeRestores(t *testing.T) {
	for _, sample := range samples() {
		for at := 0; at <= min(len(sample)-4, 300); at++ {
			b := slices.Clone(sample)
			for i := range 4 {
				b[at+i] ^= byte(37*i + at)
			}
			if got, ok := Forge(b, at, sumByBits(sample)); !ok || !bytes.Equal(got, sample) {
				t.Errorf("at %d of %x: got %x, %v", at, sample, got, ok)
			}
		}
	}
}

// P2.4
func TestForgeSeals(t *testing.T) {
	b, ok := Forge([]byte("12345678901234"), 3, 0x2144DF1C)
	if !ok || !Sealed(b) || string(b[:3]) != "123" || string(b[7:]) != "8901234" {
		t.Errorf("got %q, %v", b, ok)
	}
}

// P2.4
func TestForgeWithoutFourBytes(t *testing.T) {
	offsets := []int{math.MinInt, math.MinInt + 3, -1 << 32, -5, -4, -3, -2, -1, math.MaxInt - 4, math.MaxInt - 3, math.MaxInt - 1, math.MaxInt, 1 << 32}
	for n := range 10 {
		b := bytes.Repeat([]byte{7}, n)
		late := []int{n - 3, n - 2, n - 1, n, n + 1, n + 4}
		for _, at := range append(late, offsets...) {
			if got, ok := Forge(b, at, 5); len(got) != 0 || ok {
				t.Errorf("%d bytes, offset %d: got %x, %v", n, at, got, ok)
			}
		}
	}
	if got, ok := Forge(nil, 0, 0); len(got) != 0 || ok {
		t.Errorf("no bytes: got %x, %v", got, ok)
	}
	// There are four bytes beyond the length, but they do not count.
	if got, ok := Forge(make([]byte, 3, 8), 0, 0); len(got) != 0 || ok {
		t.Errorf("three bytes with a capacity of 8: got %x, %v", got, ok)
	}
}

// flip inverts the bits of pattern from the bit at on, in the order of transmission.
func flip(b []byte, at int, pattern uint64) {
	for ; pattern != 0; pattern >>= 1 {
		if pattern&1 == 1 {
			b[at/8] ^= 1 << (at % 8)
		}
		at++
	}
}

// P2.5: short patterns at all places, all of them.
func TestShortBurstsBreakTheSeal(t *testing.T) {
	b := Seal([]byte("123456789"))
	for at := range 8 * len(b) {
		for pattern := uint64(1); pattern < 1<<10 && pattern < 1<<(8*len(b)-at); pattern += 2 {
			flip(b, at, pattern)
			if Sealed(b) {
				t.Errorf("bits %#x from %d on: still sealed", pattern, at)
			}
			flip(b, at, pattern)
		}
	}
}

// P2.5: bits among 32 consecutive ones at all places, also across the bytes and the checksum.
func TestLongBurstsBreakTheSeal(t *testing.T) {
	source := rand.New(rand.NewSource(5))
	for _, sample := range samples() {
		if len(sample) > 300 {
			continue
		}
		b := Seal(sample)
		for at := 0; at+32 <= 8*len(b); at++ {
			patterns := []uint64{math.MaxUint32, 1<<31 | 1, polynomial, 1 << 31}
			for range 10 {
				patterns = append(patterns, uint64(source.Uint32())|1)
			}
			for _, pattern := range patterns {
				flip(b, at, pattern)
				if Sealed(b) {
					t.Errorf("%x, bits %#x from %d on: still sealed", sample, pattern, at)
				}
				flip(b, at, pattern)
			}
		}
	}
}

// The polynomial has 33 bits: they are the shortest change that keeps a seal, which shows that the order of the bits in these tests is the right one.
func TestBurstOf33BitsCanKeepTheSeal(t *testing.T) {
	b := Seal([]byte("123456789"))
	for at := 0; at+33 <= 8*len(b); at++ {
		flip(b, at, polynomial<<1|1)
		if !Sealed(b) {
			t.Errorf("from %d on: not sealed", at)
		}
		flip(b, at, polynomial<<1|1)
	}
}
