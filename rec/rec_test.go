package rec

import (
	"bytes"
	"fmt"
	"math"
	"math/rand"
	"slices"
	"strings"
	"sync"
	"testing"

	"fenestra/api"
	"fenestra/buf"
)

// P9.1
func TestSize(t *testing.T) {
	for section, want := range map[int]int{
		api.Partitions: 56, api.Windows: 24, api.Regions: 24, api.Ports: 48, api.Channels: 8, api.Links: 8,
		api.Module: 0, 7: 0, 8: 0, -1: 0, -2: 0, -6: 0, 255: 0, 257: 0, 1<<32 + 1: 0,
		math.MinInt: 0, math.MinInt + 1: 0, math.MaxInt - 1: 0, math.MaxInt: 0,
	} {
		if got := Size(section); got != want {
			t.Errorf("section %d: got %d, want %d", section, got, want)
		}
	}
}

// literal has the bytes of a record written out.
type literal struct {
	section int
	record  any
	bytes   string
}

func literals() []literal {
	return []literal{
		{api.Partitions, api.Partition{ID: 0x0201, Name: "ab", Period: 0x0A09080706050403, Duration: 0x1211100F0E0D0C0B},
			"\x01\x02" + "\x02" + "\x00" + "ab" + strings.Repeat("\x00", 28+6) + "\x03\x04\x05\x06\x07\x08\x09\x0A" + "\x0B\x0C\x0D\x0E\x0F\x10\x11\x12"},
		{api.Partitions, api.Partition{ID: 7, Name: "123456789 123456789 123456789~", Period: 1, Duration: 1 << 63},
			"\x07\x00" + "\x1E" + "\x00" + "123456789 123456789 123456789~" + strings.Repeat("\x00", 6) + "\x01\x00\x00\x00\x00\x00\x00\x00" + "\x00\x00\x00\x00\x00\x00\x00\x80"},
		{api.Windows, api.Window{Start: 0x0807060504030201, Length: 0x100F0E0D0C0B0A09, Partition: 0x1211},
			"\x01\x02\x03\x04\x05\x06\x07\x08" + "\x09\x0A\x0B\x0C\x0D\x0E\x0F\x10" + "\x11\x12" + "\x00\x00\x00\x00\x00\x00"},
		{api.Regions, api.Region{Base: 0x0807060504030201, Size: 0x100F0E0D0C0B0A09, Partition: 0x1211, Rights: 5, Shared: true},
			"\x01\x02\x03\x04\x05\x06\x07\x08" + "\x09\x0A\x0B\x0C\x0D\x0E\x0F\x10" + "\x11\x12" + "\x05" + "\x01" + "\x00\x00\x00\x00"},
		{api.Regions, api.Region{Base: 1, Size: 2, Partition: 3, Rights: 7},
			"\x01\x00\x00\x00\x00\x00\x00\x00" + "\x02\x00\x00\x00\x00\x00\x00\x00" + "\x03\x00" + "\x07" + "\x00" + "\x00\x00\x00\x00"},
		{api.Ports, api.Port{ID: 0x0201, Partition: 0x0403, Name: "p q", Size: 0x08070605},
			"\x01\x02" + "\x03\x04" + "\x03" + "\x00" + "\x00\x00" + "\x05\x06\x07\x08" + "p q" + strings.Repeat("\x00", 27+6)},
		{api.Ports, api.Port{ID: 1, Partition: 2, Name: "123456789 123456789 123456789~", Output: true, Size: 3},
			"\x01\x00" + "\x02\x00" + "\x1E" + "\x01" + "\x00\x00" + "\x03\x00\x00\x00" + "123456789 123456789 123456789~" + strings.Repeat("\x00", 6)},
		{api.Ports, api.Port{ID: 1, Partition: 2, Name: "a", Queuing: true, Size: 3},
			"\x01\x00" + "\x02\x00" + "\x01" + "\x02" + "\x00\x00" + "\x03\x00\x00\x00" + "a" + strings.Repeat("\x00", 29+6)},
		{api.Ports, api.Port{ID: 1, Partition: 2, Name: "a", Output: true, Queuing: true, Size: 3},
			"\x01\x00" + "\x02\x00" + "\x01" + "\x03" + "\x00\x00" + "\x03\x00\x00\x00" + "a" + strings.Repeat("\x00", 29+6)},
		{api.Channels, Head{ID: 0x0201, Source: 0x0403, Count: 0x0605}, "\x01\x02" + "\x03\x04" + "\x05\x06" + "\x00\x00"},
		{api.Channels, Head{}, "\x00\x00\x00\x00\x00\x00\x00\x00"},
		// The example of the document.
		{api.Links, Link{Channel: 258, Dest: 3}, "\x02\x01" + "\x03\x00" + "\x00\x00\x00\x00"},
		{api.Links, Link{Channel: math.MaxUint16, Dest: math.MaxUint16}, "\xFF\xFF\xFF\xFF\x00\x00\x00\x00"},
	}
}

// P9.1, P9.2
func TestLiterals(t *testing.T) {
	for _, l := range literals() {
		b := buf.New()
		put(b, l.record)
		if string(b.Bytes()) != l.bytes {
			t.Errorf("%+v: got %x, want %x", l.record, b.Bytes(), l.bytes)
		}
		if got, fault := getOf(l.section)(buf.View(l.bytes), 0); got != l.record || fault != (api.Fault{}) {
			t.Errorf("%x: got %+v, %v, want %+v", l.bytes, got, fault, l.record)
		}
	}
}

// The other tests compare with the layouts of layout_test.go, so these are tested by the literals, too.
func TestLayouts(t *testing.T) {
	for _, l := range literals() {
		if got := encoded(l.record); string(got) != l.bytes || sectionOf(l.record) != l.section {
			t.Errorf("%+v: got %x, want %x", l.record, got, l.bytes)
		}
		if at, code := wrongAt(l.section, []byte(l.bytes)); code != api.OK {
			t.Errorf("%+v: got %v at %d", l.record, code, at)
		}
	}
}

// P9.1: records are appended behind whatever the builder has, and nothing else is.
func TestPutAppends(t *testing.T) {
	source := rand.New(rand.NewSource(9))
	for _, n := range []int{0, 1, 2, 3, 7, 8, 15, 16, 17, 55, 80} {
		before := randomBytes(source, n)
		for _, record := range samples() {
			b := buf.New(before...)
			put(b, record)
			put(b, record)
			want := slices.Concat(before, encoded(record), encoded(record))
			if !bytes.Equal(b.Bytes(), want) {
				t.Errorf("%+v behind %x: got %x, want %x", record, before, b.Bytes(), want)
			}
		}
	}
}

// P9.1: a record has all its bytes even where the builder appends no zero bytes any more.
func TestPutHasNoLimit(t *testing.T) {
	for _, n := range []int{1<<24 - 50, 1<<24 - 3, 1 << 24, 1<<24 + 1} {
		b := buf.New(make([]byte, n)...)
		var want []byte
		for _, l := range literals() {
			put(b, l.record)
			want = append(want, l.bytes...)
		}
		if got := b.Bytes()[n:]; !bytes.Equal(got, want) {
			t.Errorf("behind %d bytes: got %x, want %x", n, got, want)
		}
	}
}

// P9.1
func TestPutOnNil(t *testing.T) {
	for _, record := range samples() {
		put(nil, record)
	}
}

// P9.1 specifies nothing for these records, but they must not end in a panic either.
func TestPutOfWrongRecords(t *testing.T) {
	for _, s := range []string{"", "\x00", "\n", "a\x7F", "ä", strings.Repeat("a", 31), strings.Repeat("a", 256), strings.Repeat("a", 1000)} {
		for _, b := range []*buf.Builder{nil, buf.New()} {
			PutPartition(b, api.Partition{Name: s})
			PutPort(b, api.Port{Name: s})
			PutRegion(b, api.Region{Rights: 8})
			PutRegion(b, api.Region{Rights: math.MaxUint8, Shared: true})
		}
	}
}

// checkGet compares a Get function with the layouts, for the bytes of a record at an offset of a view.
func checkGet(t *testing.T, section int, v buf.View, at int) {
	t.Helper()
	got, fault := getOf(section)(v, at)
	b := v[at : at+len(encoded(zero(section)))]
	wrong, code := wrongAt(section, b)
	if code != api.OK {
		want := api.Fault{Code: code, At: at + wrong}
		if got != zero(section) || fault != want {
			t.Errorf("section %d, %x at %d: got %+v, %v, want %v", section, b, at, got, fault, want)
		}
		return
	}
	if !bytes.Equal(encoded(got), b) || fault != (api.Fault{}) {
		t.Errorf("section %d, %x at %d: got %+v, %v", section, b, at, got, fault)
	}
}

// P9.2, P9.3: at each offset among other bytes.
func TestGetAtEachOffset(t *testing.T) {
	const around = 20
	for _, record := range samples() {
		for at := range around {
			b := bytes.Repeat([]byte{0xA5}, around+len(encoded(record)))
			copy(b[at:], encoded(record))
			before := slices.Clone(b)
			if got, fault := getOf(sectionOf(record))(b, at); got != record || fault != (api.Fault{}) {
				t.Errorf("%+v at %d: got %+v, %v", record, at, got, fault)
			}
			if !bytes.Equal(b, before) {
				t.Errorf("%+v at %d: the view was changed to %x", record, at, b)
			}
		}
	}
}

// P9.2: a record exists up to the last byte of the view.
func TestGetShort(t *testing.T) {
	for _, record := range samples() {
		section, whole := sectionOf(record), encoded(record)
		for n := range 3 * len(whole) {
			// Behind the view, the bytes go on, but no function may read them.
			v := buf.View(slices.Concat(whole, whole, whole)[:n])
			for at := -3; at < n+3; at++ {
				if at >= 0 && at+len(whole) <= n {
					checkGet(t, section, v, at)
				} else {
					checkShort(t, section, v, at)
				}
			}
		}
	}
}

func checkShort(t *testing.T, section int, v buf.View, at int) {
	t.Helper()
	got, fault := getOf(section)(v, at)
	if want := (api.Fault{Code: api.ErrShort, At: at}); got != zero(section) || fault != want {
		t.Errorf("section %d, %d bytes at %d: got %+v, %v, want %v", section, len(v), at, got, fault, want)
	}
}

// P9.2
func TestGetAtExtremeOffsets(t *testing.T) {
	for section := api.Partitions; section <= api.Links; section++ {
		size := len(encoded(zero(section)))
		for _, v := range []buf.View{nil, {}, {0}, make(buf.View, size-1), make(buf.View, size), make(buf.View, 1000)} {
			for _, at := range []int{
				math.MinInt, math.MinInt + 1, math.MinInt + size, math.MinInt32, -1 << 32, -1000, -size - 1, -size, -size + 1, -1,
				1000, 1001, 1 << 31, 1 << 32, 1 << 62, math.MaxInt - size - 1, math.MaxInt - size, math.MaxInt - size + 1, math.MaxInt - 1, math.MaxInt,
			} {
				checkShort(t, section, v, at)
			}
		}
	}
}

// P9.2: each byte of a record, with each value.
func TestGetWithEachByte(t *testing.T) {
	for _, record := range samples() {
		section, whole := sectionOf(record), encoded(record)
		for i := range whole {
			for value := range 256 {
				b := slices.Clone(whole)
				b[i] = byte(value)
				checkGet(t, section, b, 0)
				checkGet(t, section, slices.Concat([]byte{255, 0, 255}, b, []byte{255}), 3)
			}
		}
	}
}

// P9.2: of two wrong bytes, the first one in the order of the document counts.
func TestGetWithTwoBytes(t *testing.T) {
	values := []byte{0, 1, 2, 4, 8, 31, 'a', 255}
	for _, l := range literals() {
		for i := range l.bytes {
			for j := range i {
				for _, x := range values {
					for _, y := range values {
						b := []byte(l.bytes)
						b[i], b[j] = x, y
						checkGet(t, l.section, append([]byte{1}, b...), 1)
					}
				}
			}
		}
	}
}

// P9.2, P9.3: bytes that are mostly right, and bytes that are not.
func TestGetOfRandomBytes(t *testing.T) {
	source := rand.New(rand.NewSource(9))
	all := samples()
	for range 200000 {
		record := all[source.Intn(len(all))]
		b := encoded(record)
		for range source.Intn(6) {
			b[source.Intn(len(b))] = [...]byte{0, byte(source.Intn(8)), byte(source.Intn(256))}[source.Intn(3)]
		}
		checkGet(t, sectionOf(record), b, 0)
		checkGet(t, sectionOf(record), randomBytes(source, len(b)), 0)
	}
}

// badName has the bytes of the field of a name, with a length that does not fit to them.
type badName struct {
	bytes  string
	length int
}

func badNames() []badName {
	full := strings.Repeat("n", 30)
	return []badName{
		{"", 0}, {"", 1}, {"", 30}, {"", 31}, {"", 255}, {"a", 0}, {"a", 2}, {"a", 30}, {"a", 31}, {"ab", 1}, {"ab", 3},
		{full, 0}, {full, 1}, {full, 29}, {full, 31}, {full, 128}, {full, 255}, {full[1:], 30}, {full[1:], 28},
		{"a\x00b", 1}, {"a\x00b", 2}, {"a\x00b", 3}, {"\x00a", 1}, {"\x00a", 2}, {"a\x00\x00", 2},
		{"\x1F", 1}, {"\x7F", 1}, {"a\nb", 3}, {"a\x80", 2}, {"\xFFa", 2}, {"ä", 2}, {full[1:] + "\x01", 29}, {full[1:] + "\x01", 30},
	}
}

// P9.2: the fault of a name is at its length, not at its bytes.
func TestWrongNames(t *testing.T) {
	for _, c := range []struct {
		section, lengthAt, nameAt int
		record                    any
	}{
		{api.Partitions, 2, 4, api.Partition{ID: 1, Name: "x", Period: 2, Duration: 3}},
		{api.Ports, 4, 12, api.Port{ID: 1, Partition: 2, Name: "x", Output: true, Size: 3}},
	} {
		for _, n := range badNames() {
			b := append([]byte{9, 9, 9, 9, 9}, encoded(c.record)...)
			b[5+c.nameAt] = 0
			copy(b[5+c.nameAt:], n.bytes)
			b[5+c.lengthAt] = byte(n.length)
			got, fault := getOf(c.section)(b, 5)
			if want := (api.Fault{Code: api.ErrField, At: 5 + c.lengthAt}); got != zero(c.section) || fault != want {
				t.Errorf("section %d, %q with the length %d: got %+v, %v, want %v", c.section, n.bytes, n.length, got, fault, want)
			}
		}
	}
}

// P9.2: the order of the errors, at offsets in the view.
func TestOrderOfErrors(t *testing.T) {
	for _, c := range []struct {
		section int
		wrong   []int // what is left of the list is wrong, from the first one on
		codes   []api.Code
	}{
		{api.Partitions, []int{2, 3, 34, 35, 36, 37, 38, 39}, []api.Code{api.ErrField, api.ErrPadding, api.ErrPadding, api.ErrPadding, api.ErrPadding, api.ErrPadding, api.ErrPadding, api.ErrPadding}},
		{api.Windows, []int{18, 19, 20, 21, 22, 23}, []api.Code{api.ErrPadding, api.ErrPadding, api.ErrPadding, api.ErrPadding, api.ErrPadding, api.ErrPadding}},
		{api.Regions, []int{18, 19, 20, 21, 22, 23}, []api.Code{api.ErrField, api.ErrField, api.ErrPadding, api.ErrPadding, api.ErrPadding, api.ErrPadding}},
		{api.Ports, []int{4, 5, 6, 7, 42, 43, 44, 45, 46, 47}, []api.Code{api.ErrField, api.ErrField, api.ErrPadding, api.ErrPadding, api.ErrPadding, api.ErrPadding, api.ErrPadding, api.ErrPadding, api.ErrPadding, api.ErrPadding}},
		{api.Channels, []int{6, 7}, []api.Code{api.ErrPadding, api.ErrPadding}},
		{api.Links, []int{4, 5, 6, 7}, []api.Code{api.ErrPadding, api.ErrPadding, api.ErrPadding, api.ErrPadding}},
	} {
		for _, l := range literals() {
			if l.section != c.section {
				continue
			}
			for i := range c.wrong {
				b := []byte("front" + l.bytes + "behind")
				for _, at := range c.wrong[i:] {
					b[5+at] = 255
				}
				got, fault := getOf(c.section)(b, 5)
				if want := (api.Fault{Code: c.codes[i], At: 5 + c.wrong[i]}); got != zero(c.section) || fault != want {
					t.Errorf("%+v, wrong from %d on: got %+v, %v, want %v", l.record, c.wrong[i], got, fault, want)
				}
			}
		}
	}
}

// P9.3: the records of one builder are read at their offsets.
func TestGetInvertsPut(t *testing.T) {
	b := buf.New(1, 2, 3)
	var offsets []int
	all := samples()
	for _, record := range all {
		offsets = append(offsets, b.Len())
		put(b, record)
	}
	v := buf.View(b.Bytes())
	for i, record := range all {
		if got, fault := getOf(sectionOf(record))(v, offsets[i]); got != record || fault != (api.Fault{}) {
			t.Errorf("%+v: got %+v, %v", record, got, fault)
		}
	}
}

// P9.3: what Get takes is what Put appends for its result.
func TestPutInvertsGet(t *testing.T) {
	source := rand.New(rand.NewSource(93))
	taken := 0
	for range 100000 {
		section := api.Partitions + source.Intn(6)
		b := encoded(zero(section))
		for range source.Intn(12) {
			b[source.Intn(len(b))] = byte(source.Intn(128))
		}
		record, fault := getOf(section)(b, 0)
		if fault != (api.Fault{}) {
			continue
		}
		taken++
		again := buf.New()
		put(again, record)
		if !bytes.Equal(again.Bytes(), b) {
			t.Errorf("%x: got %+v, whose bytes are %x", b, record, again.Bytes())
		}
	}
	if taken < 1000 {
		t.Errorf("only %d records were read", taken)
	}
}

// Rule 4: a record keeps its name when the bytes change.
func TestResultSharesNoMemory(t *testing.T) {
	partition := api.Partition{ID: 1, Name: "kept", Period: 2, Duration: 3}
	port := api.Port{ID: 1, Partition: 2, Name: "kept", Size: 3}
	v := buf.View(slices.Concat(encoded(partition), encoded(port)))
	first, _ := GetPartition(v, 0)
	second, _ := GetPort(v, 56)
	clear(v)
	if first != partition || second != port {
		t.Errorf("got %+v, %+v", first, second)
	}
}

// Rule 6: the functions may be called at the same time.
func TestConcurrentCalls(t *testing.T) {
	all := samples()
	results := make([]string, 16)
	var group sync.WaitGroup
	for i := range results {
		group.Go(func() {
			for _, record := range all {
				b := buf.New()
				put(b, record)
				got, fault := getOf(sectionOf(record))(b.Bytes(), 0)
				if got != record || fault != (api.Fault{}) {
					results[i] = fmt.Sprintf("%+v: got %+v, %v", record, got, fault)
				}
			}
		})
	}
	group.Wait()
	for i, message := range results {
		if message != "" {
			t.Errorf("goroutine %d: %s", i, message)
		}
	}
}
