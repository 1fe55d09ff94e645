package rec

import (
	"bytes"
	"math"
	"math/rand"
	"slices"
	"strings"

	"fenestra/api"
	"fenestra/buf"
)

// The functions of this file follow the table of the document byte by byte, without the package's own functions, and stand for all records, whatever their type.

// sectionOf returns the section of a record.
func sectionOf(record any) int {
	switch record.(type) {
	case api.Partition:
		return api.Partitions
	case api.Window:
		return api.Windows
	case api.Region:
		return api.Regions
	case api.Port:
		return api.Ports
	case Head:
		return api.Channels
	}
	return api.Links
}

// zero returns the zero record of a section.
func zero(section int) any {
	return []any{nil, api.Partition{}, api.Window{}, api.Region{}, api.Port{}, Head{}, Link{}}[section]
}

func put(b *buf.Builder, record any) {
	switch x := record.(type) {
	case api.Partition:
		PutPartition(b, x)
	case api.Window:
		PutWindow(b, x)
	case api.Region:
		PutRegion(b, x)
	case api.Port:
		PutPort(b, x)
	case Head:
		PutHead(b, x)
	case Link:
		PutLink(b, x)
	}
}

type getter func(v buf.View, at int) (any, api.Fault)

func anyOf[R any](get func(v buf.View, at int) (R, api.Fault)) getter {
	return func(v buf.View, at int) (any, api.Fault) { return get(v, at) }
}

// getOf returns the Get function of a section.
func getOf(section int) getter {
	return []getter{nil, anyOf(GetPartition), anyOf(GetWindow), anyOf(GetRegion), anyOf(GetPort), anyOf(GetHead), anyOf(GetLink)}[section]
}

// set writes a number of n bytes, with the least significant one first.
func set(b []byte, at, n int, x uint64) {
	for i := range n {
		b[at+i] = byte(x >> (8 * i))
	}
}

func one(is bool) uint64 {
	if is {
		return 1
	}
	return 0
}

// encoded returns the bytes of a record.
func encoded(record any) []byte {
	b := make([]byte, []int{0, 56, 24, 24, 48, 8, 8}[sectionOf(record)])
	switch x := record.(type) {
	case api.Partition:
		set(b, 0, 2, uint64(x.ID))
		set(b, 2, 1, uint64(len(x.Name)))
		copy(b[4:34], x.Name)
		set(b, 40, 8, x.Period)
		set(b, 48, 8, x.Duration)
	case api.Window:
		set(b, 0, 8, x.Start)
		set(b, 8, 8, x.Length)
		set(b, 16, 2, uint64(x.Partition))
	case api.Region:
		set(b, 0, 8, x.Base)
		set(b, 8, 8, x.Size)
		set(b, 16, 2, uint64(x.Partition))
		set(b, 18, 1, uint64(x.Rights))
		set(b, 19, 1, one(x.Shared))
	case api.Port:
		set(b, 0, 2, uint64(x.ID))
		set(b, 2, 2, uint64(x.Partition))
		set(b, 4, 1, uint64(len(x.Name)))
		set(b, 5, 1, one(x.Output)+2*one(x.Queuing))
		set(b, 8, 4, uint64(x.Size))
		copy(b[12:42], x.Name)
	case Head:
		set(b, 0, 2, uint64(x.ID))
		set(b, 2, 2, uint64(x.Source))
		set(b, 4, 2, uint64(x.Count))
	case Link:
		set(b, 0, 2, uint64(x.Channel))
		set(b, 2, 2, uint64(x.Dest))
	}
	return b
}

// noName reports whether the first n bytes of the field of a name are no name, or others behind them are not 0.
func noName(field []byte, n byte) bool {
	if n < 1 || n > 30 {
		return true
	}
	unprintable := func(r byte) bool { return r < ' ' || r > '~' }
	return slices.ContainsFunc(field[:n], unprintable) || !bytes.Equal(field[n:], make([]byte, 30-n))
}

// wrongAt returns the offset of the first wrong field or else byte of the padding, and its code; or 0 and api.OK.
func wrongAt(section int, b []byte) (int, api.Code) {
	paddings := [][]int{
		nil,
		{3, 34, 35, 36, 37, 38, 39},
		{18, 19, 20, 21, 22, 23},
		{20, 21, 22, 23},
		{6, 7, 42, 43, 44, 45, 46, 47},
		{6, 7},
		{4, 5, 6, 7},
	}
	switch {
	case section == api.Partitions && noName(b[4:34], b[2]):
		return 2, api.ErrField
	case section == api.Regions && b[18] > 7:
		return 18, api.ErrField
	case section == api.Regions && b[19] > 1:
		return 19, api.ErrField
	case section == api.Ports && noName(b[12:42], b[4]):
		return 4, api.ErrField
	case section == api.Ports && b[5] > 3:
		return 5, api.ErrField
	}
	for _, at := range paddings[section] {
		if b[at] != 0 {
			return at, api.ErrPadding
		}
	}
	return 0, api.OK
}

func randomBytes(source *rand.Rand, n int) []byte {
	b := make([]byte, n)
	source.Read(b)
	return b
}

// randomName has any printable bytes.
func randomName(source *rand.Rand) string {
	b := make([]byte, 1+source.Intn(30))
	for i := range b {
		b[i] = byte(' ' + source.Intn('~'-' '+1))
	}
	return string(b)
}

// randomNumber has any number of bits.
func randomNumber(source *rand.Rand) uint64 { return source.Uint64() >> source.Intn(65) }

func randomID(source *rand.Rand) uint16 { return uint16(source.Intn(1 << 16)) }

func randomRecords(source *rand.Rand) []any {
	return []any{
		api.Partition{ID: randomID(source), Name: randomName(source), Period: randomNumber(source), Duration: randomNumber(source)},
		api.Window{Start: randomNumber(source), Length: randomNumber(source), Partition: randomID(source)},
		api.Region{Base: randomNumber(source), Size: randomNumber(source), Partition: randomID(source), Rights: uint8(source.Intn(8)), Shared: source.Intn(2) == 1},
		api.Port{ID: randomID(source), Partition: randomID(source), Name: randomName(source), Output: source.Intn(2) == 1, Queuing: source.Intn(2) == 1, Size: source.Uint32()},
		Head{ID: randomID(source), Source: randomID(source), Count: randomID(source)},
		Link{Channel: randomID(source), Dest: randomID(source)},
	}
}

// samples are records of all kinds: the least and the greatest ones, each number of rights and flags, names of all lengths, and random ones, which a fixed seed makes the same in every run.
func samples() []any {
	longest := strings.Repeat("~", 30)
	all := []any{
		api.Partition{Name: " "},
		api.Partition{ID: math.MaxUint16, Name: longest, Period: math.MaxUint64, Duration: math.MaxUint64},
		api.Window{},
		api.Window{Start: math.MaxUint64, Length: math.MaxUint64, Partition: math.MaxUint16},
		api.Region{},
		api.Region{Base: math.MaxUint64, Size: math.MaxUint64, Partition: math.MaxUint16, Rights: 7, Shared: true},
		api.Port{Name: `"`},
		api.Port{ID: math.MaxUint16, Partition: math.MaxUint16, Name: longest, Output: true, Queuing: true, Size: math.MaxUint32},
		Head{},
		Head{ID: math.MaxUint16, Source: math.MaxUint16, Count: math.MaxUint16},
		Link{},
		Link{Channel: math.MaxUint16, Dest: math.MaxUint16},
	}
	for n := range 30 {
		all = append(all, api.Partition{ID: 1, Name: longest[:n+1], Period: 2, Duration: 3}, api.Port{ID: 1, Partition: 2, Name: longest[:n+1], Size: 3})
	}
	for i := range 16 {
		all = append(all, api.Region{Base: 1, Size: 2, Partition: 3, Rights: uint8(i / 2), Shared: i%2 == 1})
	}
	for i := range 4 {
		all = append(all, api.Port{ID: 1, Partition: 2, Name: "a b", Output: i%2 == 1, Queuing: i/2 == 1, Size: 3})
	}
	source := rand.New(rand.NewSource(91))
	for range 10 {
		all = append(all, randomRecords(source)...)
	}
	return all
}
