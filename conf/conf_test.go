package conf

import (
	"fmt"
	"math"
	"math/rand"
	"slices"
	"strings"
	"sync"
	"testing"

	"fenestra/api"
)

const top = math.MaxUint64

// roomy returns a copy of l whose spare capacity has elements that no function may read or write.
func roomy[T any](l []T, beyond T) []T {
	return append(slices.Clone(l), beyond, beyond)[:len(l)]
}

// roomyConfig returns a copy of c with lists that have spare capacity.
func roomyConfig(c api.Config) api.Config {
	c.Partitions = roomy(c.Partitions, api.Partition{ID: 9, Name: "beyond"})
	c.Windows = roomy(c.Windows, api.Window{Start: 9})
	c.Regions = roomy(c.Regions, api.Region{Rights: 99})
	c.Ports = roomy(c.Ports, api.Port{ID: 9, Name: "beyond"})
	c.Channels = roomy(c.Channels, api.Channel{ID: 9, Dests: []uint16{9}})
	for i := range c.Channels {
		c.Channels[i].Dests = roomy(c.Channels[i].Dests, 999)
	}
	return c
}

// wideConfig extends the lists of a configuration of roomyConfig by their spare capacity.
func wideConfig(c api.Config) api.Config {
	c.Partitions = c.Partitions[:cap(c.Partitions)]
	c.Windows = c.Windows[:cap(c.Windows)]
	c.Regions = c.Regions[:cap(c.Regions)]
	c.Ports = c.Ports[:cap(c.Ports)]
	c.Channels = slices.Clone(c.Channels[:cap(c.Channels)])
	for i, x := range c.Channels {
		c.Channels[i].Dests = x.Dests[:cap(x.Dests)]
	}
	return c
}

// The keys of records are strings that compare as the document compares the records: numbers have a fixed number of digits, and what ends a name or a list comes before what continues it.

func numberKey(x uint64) string { return fmt.Sprintf("%016x", x) }

func boolKey(x bool) string {
	if x {
		return "true"
	}
	return "false"
}

func nameKey(s string) string {
	key := ""
	for _, x := range []byte(s) {
		key += fmt.Sprintf("+%02x", x)
	}
	return key + " "
}

func destsKey(l []uint16) string {
	key := ""
	for _, x := range l {
		key += "+" + numberKey(uint64(x))
	}
	return key + " "
}

func keysOf[T any](l []T, key func(x T) string) []string {
	var keys []string
	for _, x := range l {
		keys = append(keys, key(x))
	}
	return keys
}

func partitionKey(p api.Partition) string {
	return numberKey(uint64(p.ID)) + nameKey(p.Name) + numberKey(p.Period) + numberKey(p.Duration)
}

func windowKey(w api.Window) string {
	return numberKey(w.Start) + numberKey(w.Length) + numberKey(uint64(w.Partition))
}

func regionKey(r api.Region) string {
	return numberKey(r.Base) + numberKey(r.Size) + numberKey(uint64(r.Partition)) + numberKey(uint64(r.Rights)) + boolKey(r.Shared)
}

func portKey(p api.Port) string {
	return numberKey(uint64(p.ID)) + numberKey(uint64(p.Partition)) + nameKey(p.Name) + boolKey(p.Output) + boolKey(p.Queuing) + numberKey(uint64(p.Size))
}

func channelKey(x api.Channel) string {
	return numberKey(uint64(x.ID)) + numberKey(uint64(x.Source)) + destsKey(x.Dests)
}

// keys are the keys of all sections; the first one has the Frame.
func keys(c api.Config) [6][]string {
	return [6][]string{
		{numberKey(c.Frame)},
		keysOf(c.Partitions, partitionKey),
		keysOf(c.Windows, windowKey),
		keysOf(c.Regions, regionKey),
		keysOf(c.Ports, portKey),
		keysOf(c.Channels, channelKey),
	}
}

// normalKeys are the keys of the normal form by the letter of the document.
func normalKeys(c api.Config) [6][]string {
	channels := slices.Clone(c.Channels)
	for i, x := range channels {
		channels[i].Dests = slices.Sorted(slices.Values(x.Dests))
	}
	c.Channels = channels
	all := keys(c)
	for _, section := range all {
		slices.Sort(section)
	}
	return all
}

func equalKeys(a, b [6][]string) bool {
	return slices.EqualFunc(a[:], b[:], slices.Equal[[]string])
}

// sample has records of all sections, and none is in normal form.
func sample() api.Config {
	return api.Config{
		Frame: 100,
		Partitions: []api.Partition{
			{ID: 2, Name: "display", Period: 100, Duration: 10},
			{ID: 1, Name: "flight control", Period: 50, Duration: 20},
		},
		Windows: []api.Window{
			{Start: 50, Length: 20, Partition: 1},
			{Start: 10, Length: 20, Partition: 1},
			{Start: 30, Length: 10, Partition: 2},
		},
		Regions: []api.Region{
			{Base: 0x2000, Size: 8, Partition: 2, Rights: 3, Shared: true},
			{Base: 0x1000, Size: 16, Partition: 1, Rights: 7},
			{Base: 0x2000, Size: 8, Partition: 1, Rights: 1, Shared: true},
		},
		Ports: []api.Port{
			{ID: 3, Partition: 2, Name: "in", Size: 8},
			{ID: 1, Partition: 1, Name: "out", Output: true, Size: 8},
			{ID: 4, Partition: 2, Name: "log", Queuing: true, Size: 8},
			{ID: 2, Partition: 1, Name: "a\"b", Size: 8},
		},
		Channels: []api.Channel{
			{ID: 7, Source: 1, Dests: []uint16{3, 2}},
			{ID: 5, Source: 1, Dests: []uint16{4, 2, 3}},
			{ID: 6, Source: 4},
		},
	}
}

// few returns a number of few ones, so that random records often agree in some fields.
func few(source *rand.Rand) uint64 {
	return []uint64{0, 1, 1, 256, 1 << 32, 1 << 63, top}[source.Intn(7)]
}

func fewNames(source *rand.Rand) string {
	return []string{"", "a", "a", "ab", "b", "B", "a\x00", "\xff"}[source.Intn(8)]
}

func fewDests(source *rand.Rand) []uint16 {
	l := make([]uint16, source.Intn(4))
	for i := range l {
		l[i] = uint16(source.Intn(3)) * 256
	}
	return l
}

func randomList[T any](source *rand.Rand, random func() T) []T {
	l := make([]T, source.Intn(7))
	for i := range l {
		l[i] = random()
	}
	return l
}

// randomConfig has arbitrary records, most of them outside of the limits.
func randomConfig(source *rand.Rand) api.Config {
	return api.Config{
		Frame: few(source),
		Partitions: randomList(source, func() api.Partition {
			return api.Partition{ID: uint16(few(source)), Name: fewNames(source), Period: few(source), Duration: few(source)}
		}),
		Windows: randomList(source, func() api.Window {
			return api.Window{Start: few(source), Length: few(source), Partition: uint16(few(source))}
		}),
		Regions: randomList(source, func() api.Region {
			return api.Region{Base: few(source), Size: few(source), Partition: uint16(few(source)), Rights: uint8(few(source)), Shared: source.Intn(2) == 1}
		}),
		Ports: randomList(source, func() api.Port {
			return api.Port{ID: uint16(few(source)), Partition: uint16(few(source)), Name: fewNames(source), Output: source.Intn(2) == 1, Queuing: source.Intn(2) == 1, Size: uint32(few(source))}
		}),
		Channels: randomList(source, func() api.Channel {
			return api.Channel{ID: uint16(few(source)), Source: uint16(few(source)), Dests: fewDests(source)}
		}),
	}
}

// configs are the sample, empty ones and random ones; a fixed seed makes every run the same.
func configs() []api.Config {
	source := rand.New(rand.NewSource(5))
	empty := api.Config{Partitions: []api.Partition{}, Windows: []api.Window{}, Regions: []api.Region{}, Ports: []api.Port{}, Channels: []api.Channel{}}
	all := []api.Config{{}, {Frame: 1}, {Frame: top}, empty, sample()}
	for range 300 {
		all = append(all, randomConfig(source))
	}
	return all
}

// ordered has, for each section, configurations with one record each, in the strictly ascending order of these: each field decides before all later ones.
func ordered() [][]api.Config {
	all := make([][]api.Config, 5)
	for _, p := range []api.Partition{
		{}, {Duration: 1}, {Duration: top},
		{Period: 1}, {Period: 256, Duration: 9}, {Period: 1 << 63}, {Period: top},
		{Name: "\x00"}, {Name: "B", Period: 1}, {Name: "a", Period: 2, Duration: 1}, {Name: "a\x00"}, {Name: "aa"}, {Name: "b"}, {Name: "\xff"},
		{ID: 1}, {ID: 2, Duration: 1}, {ID: 255}, {ID: 256}, {ID: 65535},
	} {
		all[0] = append(all[0], api.Config{Partitions: []api.Partition{p}})
	}
	for _, w := range []api.Window{
		{}, {Partition: 1}, {Partition: 256}, {Partition: 65535},
		{Length: 1}, {Length: 2, Partition: 1}, {Length: 1 << 32}, {Length: 1 << 63}, {Length: top},
		{Start: 10, Length: 5, Partition: 7}, {Start: 50, Length: 1}, {Start: 256}, {Start: 1 << 63}, {Start: top},
	} {
		all[1] = append(all[1], api.Config{Windows: []api.Window{w}})
	}
	for _, r := range []api.Region{
		{}, {Shared: true},
		{Rights: 1}, {Rights: 7, Shared: true}, {Rights: 8}, {Rights: 255},
		{Partition: 1}, {Partition: 2, Rights: 1}, {Partition: 65535},
		{Size: 1}, {Size: 2, Shared: true}, {Size: 1 << 63}, {Size: top},
		{Base: 1}, {Base: 2, Partition: 1}, {Base: 1 << 63}, {Base: top},
	} {
		all[2] = append(all[2], api.Config{Regions: []api.Region{r}})
	}
	for _, p := range []api.Port{
		{}, {Size: 1}, {Size: 1 << 31}, {Size: math.MaxUint32},
		{Queuing: true}, {Queuing: true, Size: 1},
		{Output: true}, {Output: true, Size: 1}, {Output: true, Queuing: true},
		{Name: "\x00"}, {Name: "Z", Output: true}, {Name: "a", Queuing: true}, {Name: "ab"}, {Name: "b"}, {Name: "\xff"},
		{Partition: 1}, {Partition: 2, Name: "a"}, {Partition: 65535},
		{ID: 1}, {ID: 2, Partition: 1}, {ID: 65535},
	} {
		all[3] = append(all[3], api.Config{Ports: []api.Port{p}})
	}
	for _, x := range []api.Channel{
		{}, {Dests: []uint16{0}}, {Dests: []uint16{0, 0}}, {Dests: []uint16{0, 65535}},
		{Dests: []uint16{1}}, {Dests: []uint16{1, 1}}, {Dests: []uint16{1, 2}}, {Dests: []uint16{1, 2, 3}}, {Dests: []uint16{1, 3}}, {Dests: []uint16{2}}, {Dests: []uint16{256}}, {Dests: []uint16{65535}},
		{Source: 1}, {Source: 2, Dests: []uint16{1}}, {Source: 65535},
		{ID: 1}, {ID: 2, Source: 1}, {ID: 65535},
	} {
		all[4] = append(all[4], api.Config{Channels: []api.Channel{x}})
	}
	return all
}

// P5.1
func TestCounts(t *testing.T) {
	for _, c := range []struct {
		config api.Config
		want   [7]int
	}{
		{api.Config{}, [7]int{}},
		{api.Config{Frame: top}, [7]int{}},
		{sample(), [7]int{0, 2, 3, 3, 4, 3, 5}},
		{api.Config{Partitions: make([]api.Partition, 65)}, [7]int{1: 65}},
		{api.Config{Windows: make([]api.Window, 2000)}, [7]int{2: 2000}},
		{api.Config{Regions: make([]api.Region, 1025)}, [7]int{3: 1025}},
		{api.Config{Ports: make([]api.Port, 1)}, [7]int{4: 1}},
		{api.Config{Channels: make([]api.Channel, 600)}, [7]int{5: 600}},
		{api.Config{Channels: []api.Channel{{Dests: make([]uint16, 1025)}, {}, {Dests: make([]uint16, 7)}}}, [7]int{5: 3, 6: 1032}},
		{api.Config{Channels: []api.Channel{{ID: 1, Dests: []uint16{2, 2}}, {ID: 1, Dests: []uint16{2, 2}}}}, [7]int{5: 2, 6: 4}},
	} {
		if got := Counts(c.config); got != c.want {
			t.Errorf("%v: got %v, want %v", c.config, got, c.want)
		}
		if got := Counts(roomyConfig(c.config)); got != c.want {
			t.Errorf("%v with spare capacity: got %v, want %v", c.config, got, c.want)
		}
	}
}

// crowd returns a configuration with n[s] records in each section s, all of them within limits; the links belong to the channels in turn.
func crowd(n [7]int) api.Config {
	c := api.Config{Windows: make([]api.Window, n[2]), Regions: make([]api.Region, n[3]), Channels: make([]api.Channel, n[5])}
	for range n[1] {
		c.Partitions = append(c.Partitions, api.Partition{Name: "p"})
	}
	for range n[4] {
		c.Ports = append(c.Ports, api.Port{Name: "p"})
	}
	for i := range n[6] {
		x := &c.Channels[i%n[5]]
		x.Dests = append(x.Dests, uint16(i))
	}
	return c
}

func checkFault(t *testing.T, c api.Config, want api.Fault) {
	t.Helper()
	for _, x := range []api.Config{c, roomyConfig(c)} {
		if got := Check(x); got != want {
			t.Errorf("%v: got %v, want %v", Counts(c), got, want)
		}
	}
}

// limits are those of the document, written out so that the tests do not repeat the program.
func limits() [7]int { return [7]int{0, 64, 1024, 1024, 1024, 512, 1024} }

// P5.2
func TestCheckOfLimits(t *testing.T) {
	checkFault(t, api.Config{}, api.Fault{})
	checkFault(t, sample(), api.Fault{})
	checkFault(t, crowd(limits()), api.Fault{})
	for section := 1; section <= 6; section++ {
		limit := limits()[section]
		for _, n := range []int{limit + 1, limit + 2, 3 * limit} {
			counts := limits()
			counts[section] = n
			checkFault(t, crowd(counts), api.Fault{Code: api.ErrLimit, Part: section, At: limit})
			counts = [7]int{5: 1}
			counts[section] = n
			checkFault(t, crowd(counts), api.Fault{Code: api.ErrLimit, Part: section, At: limit})
		}
	}
}

// P5.2: of the sections with too many records, the first one counts.
func TestCheckOfTheFirstSection(t *testing.T) {
	for which := 1; which < 64; which++ {
		counts, want := limits(), api.Fault{}
		for section := 6; section >= 1; section-- {
			if which>>(section-1)&1 == 1 {
				want = api.Fault{Code: api.ErrLimit, Part: section, At: counts[section]}
				counts[section]++
			}
		}
		checkFault(t, crowd(counts), want)
	}
}

// P5.2: all channels together have the links of the section 6.
func TestCheckOfLinks(t *testing.T) {
	half := api.Channel{Dests: make([]uint16, 512)}
	one := api.Channel{Dests: []uint16{1}}
	checkFault(t, api.Config{Channels: []api.Channel{half, half}}, api.Fault{})
	checkFault(t, api.Config{Channels: []api.Channel{half, one, half}}, api.Fault{Code: api.ErrLimit, Part: 6, At: 1024})
	checkFault(t, api.Config{Channels: []api.Channel{{Dests: make([]uint16, 1025)}}}, api.Fault{Code: api.ErrLimit, Part: 6, At: 1024})
	checkFault(t, api.Config{Channels: make([]api.Channel, 512)}, api.Fault{})
}

// P5.2
func TestCheckOfNames(t *testing.T) {
	for s, ok := range map[string]bool{
		"a": true, " ": true, "~": true, `"\`: true, strings.Repeat("n", 30): true,
		"": false, strings.Repeat("n", 31): false, "a\n": false, "\x7f": false, "\x1f": false, "ä": false, "a\x00": false,
	} {
		c := sample()
		c.Partitions[1].Name = s
		want := api.Fault{Code: api.ErrName, Part: 1, At: 1}
		if ok {
			want = api.Fault{}
		}
		checkFault(t, c, want)
		c = sample()
		c.Ports[2].Name = s
		if !ok {
			want = api.Fault{Code: api.ErrName, Part: 4, At: 2}
		}
		checkFault(t, c, want)
	}
}

// P5.2
func TestCheckOfRights(t *testing.T) {
	for rights := range 256 {
		c := sample()
		c.Regions[1].Rights = uint8(rights)
		want := api.Fault{Code: api.ErrField, Part: 3, At: 1}
		if rights <= 7 {
			want = api.Fault{}
		}
		checkFault(t, c, want)
	}
}

// P5.2: of several wrong records, the first one of its section counts.
func TestCheckOfEachIndex(t *testing.T) {
	for at := range 64 {
		for _, last := range []int{at, 63} {
			c := crowd(limits())
			c.Partitions[last].Name, c.Partitions[at].Name = "", ""
			checkFault(t, c, api.Fault{Code: api.ErrName, Part: 1, At: at})
			c = crowd(limits())
			c.Ports[last].Name, c.Ports[at].Name = "", ""
			checkFault(t, c, api.Fault{Code: api.ErrName, Part: 4, At: at})
			c = crowd(limits())
			c.Regions[last].Rights, c.Regions[at].Rights = 8, 255
			checkFault(t, c, api.Fault{Code: api.ErrField, Part: 3, At: at})
		}
	}
	c := crowd(limits())
	c.Ports[1023].Name = ""
	checkFault(t, c, api.Fault{Code: api.ErrName, Part: 4, At: 1023})
}

// P5.2: limits come before names, those of partitions before those of ports, and names before Rights, whatever the indices are.
func TestCheckOfSeveralFaults(t *testing.T) {
	c := sample()
	c.Regions[0].Rights = 8
	checkFault(t, c, api.Fault{Code: api.ErrField, Part: 3, At: 0})
	c.Ports[3].Name = ""
	checkFault(t, c, api.Fault{Code: api.ErrName, Part: 4, At: 3})
	c.Ports[0].Name = ""
	checkFault(t, c, api.Fault{Code: api.ErrName, Part: 4, At: 0})
	c.Partitions[1].Name = ""
	checkFault(t, c, api.Fault{Code: api.ErrName, Part: 1, At: 1})
	c.Channels[2].Dests = make([]uint16, 1020)
	checkFault(t, c, api.Fault{Code: api.ErrLimit, Part: 6, At: 1024})
	c.Regions = append(c.Regions, make([]api.Region, 1022)...)
	checkFault(t, c, api.Fault{Code: api.ErrLimit, Part: 3, At: 1024})
}

// P5.3
func TestNormalOfTheSample(t *testing.T) {
	got := Normal(sample())
	want := sample()
	slices.Reverse(want.Partitions)
	want.Windows = []api.Window{want.Windows[1], want.Windows[2], want.Windows[0]}
	want.Regions = []api.Region{want.Regions[1], want.Regions[2], want.Regions[0]}
	want.Ports = []api.Port{want.Ports[1], want.Ports[3], want.Ports[0], want.Ports[2]}
	want.Channels = []api.Channel{{ID: 5, Source: 1, Dests: []uint16{2, 3, 4}}, {ID: 6, Source: 4}, {ID: 7, Source: 1, Dests: []uint16{2, 3}}}
	if !equalKeys(keys(got), keys(want)) {
		t.Errorf("got %v, want %v", got, want)
	}
}

// P5.3: no limit, name or identifier matters, and equal records stay.
func TestNormalOfAll(t *testing.T) {
	for _, c := range configs() {
		if got := Normal(c); !equalKeys(keys(got), normalKeys(c)) {
			t.Errorf("%v: got %v", c, got)
		}
		if got := Normal(Merge(c.Frame, c, c)); !equalKeys(keys(got), normalKeys(Merge(c.Frame, c, c))) {
			t.Errorf("%v twice: got %v", c, got)
		}
	}
}

// P5.3
func TestNormalOfManyRecords(t *testing.T) {
	source := rand.New(rand.NewSource(53))
	c := api.Config{}
	for range 3000 {
		c.Windows = append(c.Windows, api.Window{Start: few(source), Partition: uint16(source.Intn(9))})
		c.Channels = append(c.Channels, api.Channel{Dests: fewDests(source)})
	}
	if got := Normal(c); !equalKeys(keys(got), normalKeys(c)) {
		t.Error("wrong order")
	}
}

// P5.3: for each two different records, the one before the other is known.
func TestOrderOfTwoRecords(t *testing.T) {
	for _, section := range ordered() {
		for i, a := range section {
			for j, b := range section {
				c := Merge(0, a, b)
				want := c
				if i > j {
					want = Merge(0, b, a)
				}
				if got := Normal(c); !equalKeys(keys(got), keys(want)) {
					t.Errorf("%v: got %v", c, got)
				}
				if got := IsNormal(c); got != (i <= j) {
					t.Errorf("%v: IsNormal: got %v", c, got)
				}
				if got := Same(a, b); got != (i == j) {
					t.Errorf("Same of %v, %v: got %v", a, b, got)
				}
				if got := Same(c, Merge(0, b, a)); got != (i == j) {
					t.Errorf("Same of %v and its inverse: got %v", c, got)
				}
			}
		}
	}
}

// P5.3: the Dests are sorted before the channels are compared.
func TestNormalSortsDestsFirst(t *testing.T) {
	c := api.Config{Channels: []api.Channel{{Dests: []uint16{2, 2}}, {Dests: []uint16{3, 1}}, {Dests: []uint16{9, 1, 1}}}}
	want := api.Config{Channels: []api.Channel{{Dests: []uint16{1, 1, 9}}, {Dests: []uint16{1, 3}}, {Dests: []uint16{2, 2}}}}
	if got := Normal(c); !equalKeys(keys(got), keys(want)) {
		t.Errorf("got %v", got)
	}
	if IsNormal(c) || !IsNormal(want) {
		t.Errorf("IsNormal: got %v, %v", IsNormal(c), IsNormal(want))
	}
}

// P5.3: channels that are sorted, but not their Dests, and the other way round.
func TestIsNormalOfDests(t *testing.T) {
	for _, c := range []struct {
		channels []api.Channel
		want     bool
	}{
		{[]api.Channel{{Dests: []uint16{1, 2}}}, true},
		{[]api.Channel{{Dests: []uint16{2, 2}}}, true},
		{[]api.Channel{{Dests: []uint16{2, 1}}}, false},
		{[]api.Channel{{ID: 1, Dests: []uint16{1}}, {ID: 2, Dests: []uint16{1, 3, 2}}}, false},
		{[]api.Channel{{ID: 2, Dests: []uint16{1}}, {ID: 1, Dests: []uint16{1, 2}}}, false},
		{[]api.Channel{{ID: 1, Dests: []uint16{9}}, {ID: 2, Dests: []uint16{}}, {ID: 2}}, true},
		{[]api.Channel{{ID: 1, Source: 2}, {ID: 1, Source: 1}}, false},
	} {
		if got := IsNormal(api.Config{Channels: c.channels}); got != c.want {
			t.Errorf("%v: got %v", c.channels, got)
		}
	}
}

// P5.3
func TestIsNormal(t *testing.T) {
	for _, c := range configs() {
		if got, want := IsNormal(roomyConfig(c)), equalKeys(keys(c), normalKeys(c)); got != want {
			t.Errorf("%v: got %v", c, got)
		}
		if !IsNormal(Normal(c)) {
			t.Errorf("%v: the normal form is not normal", c)
		}
	}
	if !IsNormal(api.Config{}) || IsNormal(sample()) {
		t.Error("wrong for a zero Config or the sample")
	}
}

// edits change one thing of the sample each.
func edits() []func(c *api.Config) {
	return []func(c *api.Config){
		func(c *api.Config) { c.Frame++ },
		func(c *api.Config) { c.Partitions[1].ID++ },
		func(c *api.Config) { c.Partitions[1].Name += " " },
		func(c *api.Config) { c.Partitions[1].Period++ },
		func(c *api.Config) { c.Partitions[1].Duration += 1 << 63 },
		func(c *api.Config) { c.Windows[2].Start += 1 << 32 },
		func(c *api.Config) { c.Windows[2].Length++ },
		func(c *api.Config) { c.Windows[2].Partition += 256 },
		func(c *api.Config) { c.Regions[0].Base++ },
		func(c *api.Config) { c.Regions[0].Size++ },
		func(c *api.Config) { c.Regions[0].Partition++ },
		func(c *api.Config) { c.Regions[0].Rights += 8 },
		func(c *api.Config) { c.Regions[0].Shared = !c.Regions[0].Shared },
		func(c *api.Config) { c.Ports[3].ID++ },
		func(c *api.Config) { c.Ports[3].Partition++ },
		func(c *api.Config) { c.Ports[3].Name = "" },
		func(c *api.Config) { c.Ports[3].Output = !c.Ports[3].Output },
		func(c *api.Config) { c.Ports[3].Queuing = !c.Ports[3].Queuing },
		func(c *api.Config) { c.Ports[3].Size += 1 << 31 },
		func(c *api.Config) { c.Channels[1].ID++ },
		func(c *api.Config) { c.Channels[1].Source++ },
		func(c *api.Config) { c.Channels[1].Dests[2]++ },
		func(c *api.Config) { slices.Reverse(c.Channels[1].Dests) },
		func(c *api.Config) { c.Channels[1].Dests = c.Channels[1].Dests[:2] },
		func(c *api.Config) { c.Channels[1].Dests = append(c.Channels[1].Dests, 0) },
		func(c *api.Config) { c.Channels[2].Dests = []uint16{0} },
		func(c *api.Config) { slices.Reverse(c.Partitions) },
		func(c *api.Config) { slices.Reverse(c.Windows) },
		func(c *api.Config) { slices.Reverse(c.Regions) },
		func(c *api.Config) { slices.Reverse(c.Ports) },
		func(c *api.Config) { slices.Reverse(c.Channels) },
		func(c *api.Config) { c.Partitions = c.Partitions[:1] },
		func(c *api.Config) { c.Windows = c.Windows[:2] },
		func(c *api.Config) { c.Regions = nil },
		func(c *api.Config) { c.Ports = append(c.Ports, api.Port{}) },
		func(c *api.Config) { c.Channels = append(c.Channels, api.Channel{}) },
	}
}

// P5.3
func TestSame(t *testing.T) {
	if !Same(sample(), sample()) || !Same(sample(), roomyConfig(sample())) {
		t.Error("the sample is not the same as itself")
	}
	for i, edit := range edits() {
		c := sample()
		edit(&c)
		if Same(c, sample()) || Same(sample(), c) {
			t.Errorf("edit %d: the same", i)
		}
		if !Same(c, Clone(c)) {
			t.Errorf("edit %d: not the same as its clone", i)
		}
	}
}

// P5.3
func TestSameOfEmptyLists(t *testing.T) {
	empty := configs()[3]
	if !Same(api.Config{}, empty) || !Same(empty, api.Config{}) || !IsNormal(empty) {
		t.Error("empty lists are not the same as nil ones")
	}
	a, b := sample(), sample()
	a.Channels[2].Dests, b.Channels[2].Dests = nil, []uint16{}
	if !Same(a, b) || !Same(b, a) {
		t.Error("empty Dests are not the same as nil ones")
	}
}

// P5.3
func TestSameOfAll(t *testing.T) {
	all := configs()
	for i, a := range all {
		for _, b := range all[:i+1] {
			if got, want := Same(a, b), equalKeys(keys(a), keys(b)); got != want {
				t.Errorf("%v, %v: got %v", a, b, got)
			}
		}
	}
}

// P5.3
func TestClone(t *testing.T) {
	for _, c := range configs() {
		if got := Clone(roomyConfig(c)); !equalKeys(keys(got), keys(c)) {
			t.Errorf("%v: got %v", c, got)
		}
	}
}

// P5.4
func TestMerge(t *testing.T) {
	a, b := sample(), api.Config{Frame: 7, Windows: []api.Window{{Start: 1}}, Channels: []api.Channel{{ID: 5, Dests: []uint16{9, 8}}, {ID: 1}}}
	want := sample()
	want.Frame = 42
	want.Windows = append([]api.Window{{Start: 1}}, want.Windows...)
	want.Channels = append([]api.Channel{{ID: 5, Dests: []uint16{9, 8}}, {ID: 1}}, want.Channels...)
	if got := Merge(42, b, a); !equalKeys(keys(got), keys(want)) {
		t.Errorf("got %v, want %v", got, want)
	}
	for _, frame := range []uint64{0, 1, top} {
		want := keys(api.Config{Frame: frame})
		for _, l := range [][]api.Config{nil, {}, {{}}, {{Frame: 5}, {Frame: 6}}} {
			if got := Merge(frame, l...); !equalKeys(keys(got), want) {
				t.Errorf("%d, %v: got %v", frame, l, got)
			}
		}
	}
}

// P5.4
func TestMergeOfAll(t *testing.T) {
	all := configs()
	for i := range all {
		l := all[max(0, i-3) : i+1]
		want := keys(api.Config{Frame: uint64(i)})
		for _, c := range l {
			for section, add := range keys(c) {
				if section > 0 {
					want[section] = append(want[section], add...)
				}
			}
		}
		if got := Merge(uint64(i), l...); !equalKeys(keys(got), want) {
			t.Errorf("%d, %v: got %v", i, l, got)
		}
	}
}

// spoil changes all memory of a configuration, also by appending to its lists.
func spoil(c api.Config) {
	for _, x := range c.Channels {
		_ = append(x.Dests, 77, 77)
		for i := range x.Dests {
			x.Dests[i] ^= 12345
		}
	}
	_ = append(c.Partitions, api.Partition{ID: 77}, api.Partition{ID: 77})
	_ = append(c.Windows, api.Window{Start: 77}, api.Window{Start: 77})
	_ = append(c.Regions, api.Region{Base: 77}, api.Region{Base: 77})
	_ = append(c.Ports, api.Port{ID: 77}, api.Port{ID: 77})
	_ = append(c.Channels, api.Channel{ID: 77}, api.Channel{ID: 77})
	clear(c.Partitions)
	clear(c.Windows)
	clear(c.Regions)
	clear(c.Ports)
	clear(c.Channels)
}

// Rule 4: no argument is changed, and no result shares memory with an argument or another result.
func TestResultsShareNoMemory(t *testing.T) {
	for name, call := range map[string]func(c api.Config) api.Config{
		"Normal":          Normal,
		"Clone":           Clone,
		"Merge":           func(c api.Config) api.Config { return Merge(1, c) },
		"Merge of two":    func(c api.Config) api.Config { return Merge(1, c, c) },
		"Merge of others": func(c api.Config) api.Config { return Merge(1, api.Config{}, c, sample()) },
	} {
		for _, sorted := range []bool{false, true} {
			for _, c := range configs() {
				if sorted {
					c = Normal(c)
				}
				argument := roomyConfig(c)
				before := keys(wideConfig(argument))
				one, two := call(argument), call(argument)
				want := keys(two)
				spoil(one)
				if !equalKeys(keys(wideConfig(argument)), before) {
					t.Fatalf("%s: the argument %v was changed to %v", name, c, argument)
				}
				if !equalKeys(keys(two), want) {
					t.Fatalf("%s: a change of a result changed %v", name, two)
				}
				spoil(argument)
				if !equalKeys(keys(two), want) {
					t.Fatalf("%s: a change of the argument changed %v", name, two)
				}
			}
		}
	}
}

// Rule 4: no two lists of one result share memory.
func TestDestsShareNoMemory(t *testing.T) {
	shared := make([]uint16, 2, 8)
	c := api.Config{Channels: []api.Channel{{ID: 1, Dests: shared}, {ID: 2, Dests: shared}, {ID: 3, Dests: shared[:1]}, {ID: 4, Dests: shared[:0]}}}
	for name, got := range map[string]api.Config{"Normal": Normal(c), "Clone": Clone(c), "Merge": Merge(0, c, c)} {
		for i, x := range got.Channels {
			wide := x.Dests[:cap(x.Dests)]
			for j := range wide {
				wide[j] = 8
			}
			for _, y := range got.Channels[i+1:] {
				if slices.Max(append([]uint16{0}, y.Dests[:cap(y.Dests)]...)) != 0 {
					t.Errorf("%s: the channels %d and %d share memory", name, x.ID, y.ID)
				}
			}
		}
	}
	if slices.Max(shared[:8]) != 0 {
		t.Errorf("the argument was changed to %v", shared[:8])
	}
}

// Rule 4: what only reads a configuration changes nothing.
func TestReadersChangeNothing(t *testing.T) {
	for _, c := range configs() {
		argument := roomyConfig(c)
		before := keys(wideConfig(argument))
		Check(argument)
		Counts(argument)
		IsNormal(argument)
		Same(argument, argument)
		if !equalKeys(keys(wideConfig(argument)), before) {
			t.Errorf("%v was changed to %v", c, argument)
		}
	}
}

// P5.5
func TestNormalDoesNotDependOnTheOrder(t *testing.T) {
	source := rand.New(rand.NewSource(55))
	for _, c := range configs() {
		want := Normal(c)
		if !Same(Normal(want), want) {
			t.Errorf("%v: the normal form of the normal form is another one", c)
		}
		for range 5 {
			if got := Normal(shuffled(source, c)); !Same(got, want) {
				t.Errorf("%v: got %v, want %v", c, got, want)
			}
		}
	}
}

func shuffle[T any](source *rand.Rand, l []T) {
	source.Shuffle(len(l), func(i, j int) { l[i], l[j] = l[j], l[i] })
}

func shuffled(source *rand.Rand, c api.Config) api.Config {
	c = Clone(c)
	shuffle(source, c.Partitions)
	shuffle(source, c.Windows)
	shuffle(source, c.Regions)
	shuffle(source, c.Ports)
	shuffle(source, c.Channels)
	for _, x := range c.Channels {
		shuffle(source, x.Dests)
	}
	return c
}

// P5.5: the counts, the limits and the other promises do not depend on the normal form either.
func TestNormalKeepsRecords(t *testing.T) {
	for _, c := range configs() {
		n := Normal(c)
		if Counts(n) != Counts(c) || n.Frame != c.Frame {
			t.Errorf("%v: got %v", c, n)
		}
		if a, b := Check(n), Check(c); a.Code != b.Code || a.Part != b.Part {
			t.Errorf("%v: got the faults %v, %v", c, a, b)
		}
	}
}

// Rule 6: the functions may be called at the same time with the same arguments.
func TestConcurrentCalls(t *testing.T) {
	all := configs()
	results := make([]int, 16)
	var group sync.WaitGroup
	for i := range results {
		group.Go(func() {
			for _, c := range all {
				if n := Normal(c); IsNormal(n) && Same(Clone(c), Merge(c.Frame, c)) && Counts(n) == Counts(c) && Check(c) == Check(Clone(c)) {
					results[i]++
				}
			}
		})
	}
	group.Wait()
	for i, got := range results {
		if got != len(all) {
			t.Errorf("goroutine %d: got %d, want %d", i, got, len(all))
		}
	}
}
