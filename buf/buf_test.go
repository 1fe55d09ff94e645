package buf

import (
	"bytes"
	"encoding/binary"
	"math"
	"math/rand"
	"slices"
	"sync"
	"testing"
)

const beyond = "beyond the length"

// roomy returns a copy of b whose spare capacity has bytes that no function may read or write.
func roomy(b []byte) []byte {
	return append(slices.Clone(b), beyond...)[:len(b)]
}

func checkUntouched(t *testing.T, b, before []byte) {
	t.Helper()
	if !bytes.Equal(b, before) || string(b[len(b):len(b)+len(beyond)]) != beyond {
		t.Errorf("the argument %x was changed to %x", before, b[:len(b)+len(beyond)])
	}
}

// samples are bytes of many lengths; a fixed seed makes every run the same.
func samples() [][]byte {
	source := rand.New(rand.NewSource(3))
	all := [][]byte{nil, {}, {0}, {255}, {2, 1}, bytes.Repeat([]byte{255}, 17), bytes.Repeat([]byte{0}, 17), {128, 0, 0, 0, 0, 0, 0, 128}}
	for n := 1; n < 20; n++ {
		b := make([]byte, n)
		source.Read(b)
		all = append(all, b)
	}
	return all
}

// offsets are those at all places of n bytes, some around them, and the extreme ones.
func offsets(n int) []int {
	all := []int{math.MinInt, math.MinInt + 1, math.MinInt + 8, -1 << 32, 1 << 32, 1<<32 + 1, 1 << 62, math.MaxInt - 8, math.MaxInt - 7, math.MaxInt - 3, math.MaxInt - 1, math.MaxInt}
	for at := -9; at < n+10; at++ {
		all = append(all, at)
	}
	return all
}

// valueAt calculates by the letter of the document: the byte i counts 256^i.
func valueAt(b []byte, at, n int) (uint64, bool) {
	if at < 0 || at > len(b) || len(b)-at < n {
		return 0, false
	}
	value, unit := uint64(0), uint64(1)
	for i := range n {
		value += unit * uint64(b[at+i])
		unit *= 256
	}
	return value, true
}

// readers are the four methods by the numbers of their bytes.
func readers() map[int]func(v View, at int) (uint64, bool) {
	return map[int]func(v View, at int) (uint64, bool){
		1: func(v View, at int) (uint64, bool) { x, ok := v.U8(at); return uint64(x), ok },
		2: func(v View, at int) (uint64, bool) { x, ok := v.U16(at); return uint64(x), ok },
		4: func(v View, at int) (uint64, bool) { x, ok := v.U32(at); return uint64(x), ok },
		8: func(v View, at int) (uint64, bool) { x, ok := v.U64(at); return x, ok },
	}
}

// P3.1
func TestNumbersAreRead(t *testing.T) {
	v := View{1, 2, 3, 4, 5, 6, 7, 0x88, 9}
	if x, ok := v.U8(7); x != 0x88 || !ok {
		t.Errorf("U8: got %#x, %v", x, ok)
	}
	if x, ok := v.U16(6); x != 0x8807 || !ok {
		t.Errorf("U16: got %#x, %v", x, ok)
	}
	if x, ok := v.U32(4); x != 0x88070605 || !ok {
		t.Errorf("U32: got %#x, %v", x, ok)
	}
	if x, ok := v.U64(0); x != 0x8807060504030201 || !ok {
		t.Errorf("U64: got %#x, %v", x, ok)
	}
	if x, ok := v.U64(1); x != 0x0988070605040302 || !ok {
		t.Errorf("U64: got %#x, %v", x, ok)
	}
}

// P3.1: at each offset, also where the part does not exist.
func TestNumbersAreReadAtEachOffset(t *testing.T) {
	for _, sample := range samples() {
		b := roomy(sample)
		for n, read := range readers() {
			for _, at := range offsets(len(b)) {
				x, ok := read(b, at)
				if want, exists := valueAt(sample, at, n); x != want || ok != exists {
					t.Errorf("%d bytes at %d of %x: got %#x, %v, want %#x, %v", n, at, sample, x, ok, want, exists)
				}
			}
		}
		checkUntouched(t, b, sample)
	}
}

// P3.2
func TestPart(t *testing.T) {
	for _, sample := range samples() {
		b := roomy(sample)
		for _, at := range offsets(len(b)) {
			for _, n := range offsets(len(b)) {
				checkPart(t, b, sample, at, n)
			}
		}
		checkUntouched(t, b, sample)
	}
}

func checkPart(t *testing.T, b, sample []byte, at, n int) {
	t.Helper()
	got, ok := View(b).Part(at, n)
	exists := at >= 0 && n >= 0 && at <= len(sample) && n <= len(sample)-at
	if ok != exists || !exists && len(got) != 0 {
		t.Errorf("Part(%d, %d) of %x: got %x, %v", at, n, sample, got, ok)
	}
	if !exists {
		return
	}
	if !bytes.Equal(got, sample[at:at+n]) {
		t.Errorf("Part(%d, %d) of %x: got %x", at, n, sample, got)
	}
	for i := range got {
		got[i]++
	}
	_ = append(got, 1, 2, 3)
	checkUntouched(t, b, sample)
}

// P3.2: an empty part exists at the end, but not behind it.
func TestEmptyPart(t *testing.T) {
	for at, want := range map[int]bool{-1: false, 0: true, 2: true, 3: true, 4: false} {
		if got, ok := (View{1, 2, 3}).Part(at, 0); len(got) != 0 || ok != want {
			t.Errorf("at %d: got %x, %v", at, got, ok)
		}
	}
	if got, ok := View(nil).Part(0, 0); len(got) != 0 || !ok {
		t.Errorf("no bytes: got %x, %v", got, ok)
	}
}

// P3.2
func TestDirty(t *testing.T) {
	v := View{0, 0, 7, 0, 0, 255, 1, 0, 0}
	for _, c := range []struct{ at, n, want int }{
		{0, 9, 2}, {0, 3, 2}, {0, 2, -1}, {2, 1, 2}, {2, 7, 2}, {3, 2, -1}, {3, 3, 5}, {3, 6, 5}, {6, 3, 6}, {7, 2, -1}, {8, 1, -1},
		{0, 0, -1}, {2, 0, -1}, {9, 0, -1}, {10, 0, -2}, {9, 1, -2}, {0, 10, -2}, {2, 8, -2}, {8, 2, -2}, {-1, 0, -2}, {-1, 5, -2}, {2, -1, -2},
		{math.MinInt, 0, -2}, {0, math.MinInt, -2}, {math.MinInt, math.MinInt, -2}, {math.MaxInt, 1, -2}, {1, math.MaxInt, -2}, {math.MaxInt, math.MaxInt, -2}, {math.MaxInt, 0, -2}, {0, math.MaxInt, -2},
	} {
		if got := v.Dirty(c.at, c.n); got != c.want {
			t.Errorf("Dirty(%d, %d): got %d, want %d", c.at, c.n, got, c.want)
		}
	}
}

// P3.2: each single bit is found, at its offset in the view.
func TestDirtyFindsEachBit(t *testing.T) {
	for bit := range 8 * 17 {
		b := make([]byte, 17)
		b[bit/8] = 1 << (bit % 8)
		b = roomy(b)
		before := slices.Clone(b)
		for at := range len(b) + 1 {
			for n := range len(b) - at + 1 {
				want := -1
				if at <= bit/8 && bit/8 < at+n {
					want = bit / 8
				}
				if got := View(b).Dirty(at, n); got != want {
					t.Errorf("bit %d, Dirty(%d, %d): got %d, want %d", bit, at, n, got, want)
				}
			}
		}
		checkUntouched(t, b, before)
	}
}

func TestDirtyOfNoBytes(t *testing.T) {
	for _, v := range []View{nil, {}} {
		if got := v.Dirty(0, 0); got != -1 {
			t.Errorf("Dirty(0, 0): got %d", got)
		}
		if got := v.Dirty(0, 1); got != -2 {
			t.Errorf("Dirty(0, 1): got %d", got)
		}
	}
}

func checkBuilder(t *testing.T, b *Builder, want []byte) {
	t.Helper()
	if got := b.Bytes(); !bytes.Equal(got, want) || b.Len() != len(want) {
		t.Errorf("got %x with Len %d, want %x", got, b.Len(), want)
	}
}

// P3.3
func TestNew(t *testing.T) {
	checkBuilder(t, New(), nil)
	checkBuilder(t, New(nil...), nil)
	checkBuilder(t, New(0), []byte{0})
	checkBuilder(t, New(1, 2, 255), []byte{1, 2, 255})
	for _, sample := range samples() {
		argument := roomy(sample)
		b := New(argument...)
		checkBuilder(t, b, sample)
		b.U64(math.MaxUint64)
		b.Set32(0, math.MaxUint32)
		checkUntouched(t, argument, sample)
	}
}

// P3.3
func TestAppend(t *testing.T) {
	for _, c := range []struct {
		put  func(b *Builder)
		want []byte
	}{
		{func(b *Builder) { b.U8(0) }, []byte{0}},
		{func(b *Builder) { b.U8(255) }, []byte{255}},
		{func(b *Builder) { b.U16(258) }, []byte{2, 1}},
		{func(b *Builder) { b.U16(0) }, []byte{0, 0}},
		{func(b *Builder) { b.U16(0xFF00) }, []byte{0, 255}},
		{func(b *Builder) { b.U32(0x04030201) }, []byte{1, 2, 3, 4}},
		{func(b *Builder) { b.U32(0xFE) }, []byte{0xFE, 0, 0, 0}},
		{func(b *Builder) { b.U32(math.MaxUint32) }, []byte{255, 255, 255, 255}},
		{func(b *Builder) { b.U64(0xF807060504030201) }, []byte{1, 2, 3, 4, 5, 6, 7, 0xF8}},
		{func(b *Builder) { b.U64(1) }, []byte{1, 0, 0, 0, 0, 0, 0, 0}},
		{func(b *Builder) { b.U64(1 << 32) }, []byte{0, 0, 0, 0, 1, 0, 0, 0}},
		{func(b *Builder) { b.Add() }, nil},
		{func(b *Builder) { b.Add(nil...) }, nil},
		{func(b *Builder) { b.Add(9, 8, 7) }, []byte{9, 8, 7}},
	} {
		for _, sample := range samples() {
			b := New(sample...)
			c.put(b)
			checkBuilder(t, b, append(slices.Clone(sample), c.want...))
		}
	}
}

// P3.3, and Rule 4: the builder has a copy of what was added, and gives out copies only.
func TestBuilderSharesNoMemory(t *testing.T) {
	first, second := []byte{1, 2, 3}, roomy([]byte{4, 5, 6, 7})
	b := New(first...)
	b.Add(second...)
	clear(first)
	checkUntouched(t, second, []byte{4, 5, 6, 7})
	clear(second)
	want := []byte{1, 2, 3, 4, 5, 6, 7}
	checkBuilder(t, b, want)
	one, two := b.Bytes(), b.Bytes()
	clear(one)
	_ = append(one, 1, 2, 3)
	if !bytes.Equal(two, want) {
		t.Errorf("the second result was changed to %x", two)
	}
	checkBuilder(t, b, want)
	b.Set32(3, 0)
	b.U8(8)
	if !bytes.Equal(two, want) {
		t.Errorf("the earlier result was changed to %x", two)
	}
	checkBuilder(t, b, []byte{1, 2, 3, 0, 0, 0, 0, 8})
}

// P3.3: a builder's bytes can be added to itself.
func TestAddOwnBytes(t *testing.T) {
	b := New(1, 2, 3)
	b.Add(b.Bytes()...)
	b.Add(b.Bytes()...)
	checkBuilder(t, b, []byte{1, 2, 3, 1, 2, 3, 1, 2, 3, 1, 2, 3})
}

// P3.4
func TestZeros(t *testing.T) {
	for _, sample := range samples() {
		for _, n := range []int{0, 1, 2, 3, 15, 16, 1000} {
			b := New(sample...)
			if !b.Zeros(n) {
				t.Errorf("%d bytes, Zeros(%d): got false", len(sample), n)
			}
			b.U8(7)
			checkBuilder(t, b, append(append(slices.Clone(sample), make([]byte, n)...), 7))
		}
		for _, n := range []int{-1, -2, -len(sample), math.MinInt32, math.MinInt + 1, math.MinInt} {
			if n == 0 {
				continue
			}
			b := New(sample...)
			if b.Zeros(n) {
				t.Errorf("%d bytes, Zeros(%d): got true", len(sample), n)
			}
			checkBuilder(t, b, sample)
		}
	}
}

// P3.4: the bytes appended are zero even where other bytes were before.
func TestZerosAreZero(t *testing.T) {
	b := New(bytes.Repeat([]byte{255}, 5)...)
	for i := range 100 {
		before := b.Len()
		b.Zeros(i)
		if b.Len() != before+i || View(b.Bytes()).Dirty(before, i) != -1 {
			t.Errorf("Zeros(%d): got %x", i, b.Bytes())
		}
		b.U16(math.MaxUint16)
	}
}

// P3.4
func TestZerosUpToTheLimit(t *testing.T) {
	for _, c := range []struct {
		before, n int
		want      bool
	}{
		{0, 1 << 24, true}, {0, 1<<24 + 1, false}, {1, 1<<24 - 1, true}, {1, 1 << 24, false}, {3, 1<<24 - 4, true},
		{1 << 24, 0, true}, {1 << 24, 1, false}, {1 << 24, -1, false}, {1<<24 - 1, 1, true}, {1<<24 - 1, 2, false},
		{0, 1 << 32, false}, {0, math.MaxInt, false}, {1, math.MaxInt, false}, {5, math.MaxInt - 4, false}, {1 << 24, math.MaxInt, false},
		// The number of bytes exceeds the limit already, because Add has none.
		{1<<24 + 1, 0, false}, {1<<24 + 1, 1, false}, {1<<24 + 1, math.MaxInt, false}, {1<<24 + 1, math.MaxInt - 1<<24, false},
	} {
		b := New(bytes.Repeat([]byte{1}, c.before)...)
		want := c.before
		if c.want {
			want += c.n
		}
		if got := b.Zeros(c.n); got != c.want || b.Len() != want {
			t.Errorf("%d bytes, Zeros(%d): got %v and %d bytes", c.before, c.n, got, b.Len())
		}
		if v := View(b.Bytes()); v.Dirty(c.before, want-c.before) != -1 {
			t.Errorf("%d bytes, Zeros(%d): the bytes are not zero", c.before, c.n)
		}
	}
}

// P3.4
func TestAlign(t *testing.T) {
	for before := range 40 {
		for n := 1; n < 45; n++ {
			b := New(bytes.Repeat([]byte{1}, before)...)
			want := 0
			for want < before {
				want += n
			}
			if !b.Align(n) {
				t.Errorf("%d bytes, Align(%d): got false", before, n)
			}
			checkBuilder(t, b, append(bytes.Repeat([]byte{1}, before), make([]byte, want-before)...))
		}
		for _, n := range []int{0, -1, -2, -16, math.MinInt32, math.MinInt + 1, math.MinInt} {
			b := New(bytes.Repeat([]byte{1}, before)...)
			if b.Align(n) {
				t.Errorf("%d bytes, Align(%d): got true", before, n)
			}
			checkBuilder(t, b, bytes.Repeat([]byte{1}, before))
		}
	}
}

// P3.4
func TestAlignUpToTheLimit(t *testing.T) {
	for _, c := range []struct {
		before, n int
		want      bool
		after     int
	}{
		{1, 1 << 24, true, 1 << 24}, {1, 1<<24 + 1, false, 1}, {1<<24 - 1, 16, true, 1 << 24}, {1<<24 - 1, 1 << 23, true, 1 << 24},
		{1<<24 - 1, 1<<24 - 1, true, 1<<24 - 1}, {1<<24 - 1, 1<<24 - 2, false, 1<<24 - 1}, {1<<23 + 1, 1 << 23, true, 1 << 24},
		{1<<24 - 3, 7, true, 1<<24 - 1}, {1 << 24, 7, false, 1 << 24}, {1 << 24, 1, true, 1 << 24}, {1 << 24, 16, true, 1 << 24}, {1 << 24, 1 << 24, true, 1 << 24},
		{1 << 24, 3, false, 1 << 24}, {1 << 24, 1 << 25, false, 1 << 24}, {1 << 24, 0, false, 1 << 24},
		{1, 1 << 32, false, 1}, {1, math.MaxInt, false, 1}, {1 << 24, math.MaxInt, false, 1 << 24},
		// 0 is a multiple of every number.
		{0, 1<<24 + 1, true, 0}, {0, math.MaxInt, true, 0},
		// The number of bytes exceeds the limit already, because Add has none.
		{1<<24 + 1, 1, false, 1<<24 + 1}, {1<<24 + 1, 2, false, 1<<24 + 1}, {1<<24 + 16, 16, false, 1<<24 + 16}, {1<<24 + 1, math.MaxInt, false, 1<<24 + 1},
	} {
		b := New(bytes.Repeat([]byte{1}, c.before)...)
		if got := b.Align(c.n); got != c.want || b.Len() != c.after {
			t.Errorf("%d bytes, Align(%d): got %v and %d bytes", c.before, c.n, got, b.Len())
		}
		if v := View(b.Bytes()); v.Dirty(c.before, c.after-c.before) != -1 {
			t.Errorf("%d bytes, Align(%d): the bytes are not zero", c.before, c.n)
		}
	}
}

// P3.3, P3.4: only zero bytes have the limit.
func TestNumbersHaveNoLimit(t *testing.T) {
	b := New()
	b.Zeros(1 << 24)
	b.U8(1)
	b.U16(2)
	b.U32(3)
	b.U64(4)
	b.Add(5, 6)
	if b.Len() != 1<<24+17 || !bytes.Equal(b.Bytes()[1<<24:], []byte{1, 2, 0, 3, 0, 0, 0, 4, 0, 0, 0, 0, 0, 0, 0, 5, 6}) {
		t.Errorf("got %d bytes, %x", b.Len(), b.Bytes()[1<<24:])
	}
	if !b.Set32(1<<24+13, 0x0A090807) || !bytes.Equal(b.Bytes()[1<<24+13:], []byte{7, 8, 9, 10}) {
		t.Errorf("got %x", b.Bytes()[1<<24:])
	}
}

// P3.5
func TestSet32(t *testing.T) {
	for _, sample := range samples() {
		for _, at := range offsets(len(sample)) {
			for _, x := range []uint32{0, 1, 0x04030201, 0xFF00, 1 << 31, math.MaxUint32} {
				b := New(roomy(sample)...)
				want := slices.Clone(sample)
				exists := at >= 0 && at <= len(sample)-4
				if exists {
					binary.LittleEndian.PutUint32(want[at:], x)
				}
				if got := b.Set32(at, x); got != exists {
					t.Errorf("%d bytes, Set32(%d, %#x): got %v", len(sample), at, x, got)
				}
				checkBuilder(t, b, want)
			}
		}
	}
}

// P3.5: the builder may have room for more bytes, but they do not count.
func TestSet32WithinTheLength(t *testing.T) {
	b := New()
	for i := range 50 {
		want := b.Bytes()
		if b.Set32(i-3, math.MaxUint32) {
			t.Errorf("%d bytes: got true", i)
		}
		checkBuilder(t, b, want)
		b.U8(byte(i))
	}
}

// P3.5: it goes on with appending at the end.
func TestAppendAfterSet32(t *testing.T) {
	b := New(1, 2, 3, 4, 5, 6)
	b.Set32(0, 0)
	b.Set32(2, 0xDDCCBBAA)
	b.U8(7)
	checkBuilder(t, b, []byte{0, 0, 0xAA, 0xBB, 0xCC, 0xDD, 7})
}

// step is a number that was appended, with its offset and its width.
type step struct {
	at, n int
	x     uint64
}

// appendRandom calls a random method and returns what it appended, as n = 0 for all but numbers.
func appendRandom(b *Builder, source *rand.Rand) step {
	s := step{at: b.Len(), x: source.Uint64()}
	switch source.Intn(7) {
	case 0:
		s.n, s.x = 1, s.x&math.MaxUint8
		b.U8(uint8(s.x))
	case 1:
		s.n, s.x = 2, s.x&math.MaxUint16
		b.U16(uint16(s.x))
	case 2:
		s.n, s.x = 4, s.x&math.MaxUint32
		b.U32(uint32(s.x))
	case 3:
		s.n = 8
		b.U64(s.x)
	case 4:
		b.Add(make([]byte, source.Intn(9))...)
	case 5:
		b.Zeros(source.Intn(9))
	case 6:
		b.Align(1 + source.Intn(9))
	}
	return s
}

// P3.6
func TestAppendedIsRead(t *testing.T) {
	source := rand.New(rand.NewSource(4))
	for range 100 {
		b := New(make([]byte, source.Intn(20))...)
		steps := []step{}
		for range 50 {
			steps = append(steps, appendRandom(b, source))
		}
		v := View(b.Bytes())
		for _, s := range steps {
			if read := readers()[s.n]; read != nil {
				if x, ok := read(v, s.at); x != s.x || !ok {
					t.Errorf("%d bytes at %d: got %#x, %v, want %#x", s.n, s.at, x, ok, s.x)
				}
			}
		}
	}
}

// P3.6, for bytes, zeros and a number that was set.
func TestAppendedBytesAreRead(t *testing.T) {
	for _, sample := range samples() {
		b := New(9, 9, 9)
		b.Align(8)
		b.Add(sample...)
		b.Zeros(5)
		b.Set32(4, 0xCBF43926)
		v := View(b.Bytes())
		if part, ok := v.Part(8, len(sample)); !ok || !bytes.Equal(part, sample) {
			t.Errorf("got %x, %v, want %x", part, ok, sample)
		}
		if got := v.Dirty(8+len(sample), 5); got != -1 {
			t.Errorf("the zeros: got %d", got)
		}
		if x, ok := v.U32(4); x != 0xCBF43926 || !ok {
			t.Errorf("the number set: got %#x, %v", x, ok)
		}
	}
}

func TestNilBuilder(t *testing.T) {
	var b *Builder
	b.U8(1)
	b.U16(1)
	b.U32(1)
	b.U64(1)
	b.Add()
	b.Add(1, 2)
	for _, n := range []int{math.MinInt, -1, 0, 1, 16, math.MaxInt} {
		if b.Zeros(n) || b.Align(n) || b.Set32(n, 1) {
			t.Errorf("%d: got true", n)
		}
	}
	if b.Len() != 0 || len(b.Bytes()) != 0 {
		t.Errorf("got %d, %x", b.Len(), b.Bytes())
	}
}

// P2
func TestBuildersAreIndependent(t *testing.T) {
	argument := []byte{1, 2, 3, 4}
	one, two := New(argument...), New(argument...)
	one.Set32(0, 0)
	one.U8(5)
	two.U8(6)
	checkBuilder(t, one, []byte{0, 0, 0, 0, 5})
	checkBuilder(t, two, []byte{1, 2, 3, 4, 6})
}

// Rule 6: the functions may be called at the same time, each goroutine with a builder of its own.
func TestConcurrentCalls(t *testing.T) {
	argument := []byte{1, 2, 3, 4, 5, 6, 7, 8}
	results := make([]uint64, 16)
	var group sync.WaitGroup
	for i := range results {
		group.Go(func() {
			b := New(argument...)
			for range 100 {
				b.U64(uint64(i))
			}
			results[i], _ = View(b.Bytes()).U64(800)
		})
	}
	group.Wait()
	for i, x := range results {
		if x != uint64(i) {
			t.Errorf("goroutine %d: got %d", i, x)
		}
	}
}
