package show

import (
	"fmt"
	"math"
	"math/rand"
	"slices"
	"strings"
	"sync"
	"testing"

	"fenestra/api"
	"fenestra/conf"
	"fenestra/lex"
	"fenestra/parse"
)

const top = math.MaxUint64

// short is the beginning of what a message says of a text, since some have thousands of lines.
func short(s string) string { return fmt.Sprintf("%.1000s", s) }

// printed is a text by the letter of the document, with the lines of the records that it is given.
func printed(frame uint64, records ...string) string {
	s := fmt.Sprintf("module {\n\tframe %d;\n", frame)
	for _, record := range records {
		s += "\t" + record + "\n"
	}
	return s + "}\n"
}

// checkLines compares Print, Records and Line with the lines of the records of a configuration.
func checkLines(t *testing.T, c api.Config, records ...string) {
	t.Helper()
	if got, want := Print(c), printed(c.Frame, records...); got != want {
		t.Errorf("got %q, want %q", short(got), short(want))
	}
	want := ""
	for _, record := range records {
		want += record + "\n"
	}
	if got := Records(c); got != want {
		t.Errorf("got %q, want %q", short(got), short(want))
	}
	checkPlaces(t, c)
}

// checkPlaces expects the records of all sections one after the other from the third line on, and no others.
func checkPlaces(t *testing.T, c api.Config) {
	t.Helper()
	next := 3
	counts := []int{len(c.Partitions), len(c.Windows), len(c.Regions), len(c.Ports), len(c.Channels)}
	for i, n := range counts {
		for index := range n {
			if got := Line(c, i+1, index); got != next {
				t.Errorf("record %d of section %d: got the line %d, want %d", index, i+1, got, next)
			}
			next++
		}
		for _, index := range []int{-1, n, n + 1, math.MinInt, math.MaxInt} {
			checkNoLine(t, c, i+1, index)
		}
	}
	for _, section := range []int{-1, 0, 6, 7, 8, math.MinInt, math.MaxInt} {
		for _, index := range []int{-1, 0, 1, 2, math.MinInt, math.MaxInt} {
			checkNoLine(t, c, section, index)
		}
	}
}

func checkNoLine(t *testing.T, c api.Config, section, index int) {
	t.Helper()
	if got := Line(c, section, index); got != 0 {
		t.Errorf("record %d of section %d: got the line %d", index, section, got)
	}
}

func checkCanonical(t *testing.T, s, want string) {
	t.Helper()
	if got, fault := Canonical(s); got != want || fault != (api.Fault{}) {
		t.Errorf("%q: got %q, %v, want %q", short(s), short(got), fault, short(want))
	}
}

func checkFault(t *testing.T, s string, want api.Fault) {
	t.Helper()
	if got, fault := Canonical(s); got != "" || fault != want {
		t.Errorf("%q: got %q, %v, want %v", short(s), short(got), fault, want)
	}
}

// The lines of records by the letter of the document.

func partitionLine(p api.Partition) string {
	return fmt.Sprintf("partition %d %s { period %d; duration %d; }", p.ID, quoted(p.Name), p.Period, p.Duration)
}

func windowLine(w api.Window) string {
	return fmt.Sprintf("window %d { start %d; length %d; }", w.Partition, w.Start, w.Length)
}

func regionLine(r api.Region) string {
	rights := []string{"none", "r", "w", "rw", "x", "rx", "wx", "rwx"}[r.Rights]
	shared := map[bool]string{true: " shared;"}[r.Shared]
	return fmt.Sprintf("region %d { base %#x; size %d; rights %s;%s }", r.Partition, r.Base, r.Size, rights, shared)
}

func portLine(p api.Port) string {
	direction := map[bool]string{false: "input", true: "output"}[p.Output]
	kind := map[bool]string{false: "sampling", true: "queuing"}[p.Queuing]
	return fmt.Sprintf("port %d %s { partition %d; %s; %s; size %d; }", p.ID, quoted(p.Name), p.Partition, direction, kind, p.Size)
}

func channelLine(x api.Channel) string {
	dests := ""
	for _, dest := range x.Dests {
		dests += fmt.Sprintf(", %d", dest)
	}
	return fmt.Sprintf("channel %d { source %d; to%s; }", x.ID, x.Source, strings.TrimPrefix(dests, ","))
}

func quoted(name string) string {
	return `"` + strings.NewReplacer(`\`, `\\`, `"`, `\"`).Replace(name) + `"`
}

func linesOf[T any](l []T, line func(x T) string) []string {
	var lines []string
	for _, x := range l {
		lines = append(lines, line(x))
	}
	return lines
}

func lines(c api.Config) []string {
	return slices.Concat(
		linesOf(c.Partitions, partitionLine),
		linesOf(c.Windows, windowLine),
		linesOf(c.Regions, regionLine),
		linesOf(c.Ports, portLine),
		linesOf(c.Channels, channelLine),
	)
}

// allKinds has a record of each form, and none of its sections is in normal form.
func allKinds() api.Config {
	return api.Config{
		Frame:      100,
		Partitions: []api.Partition{{ID: 2, Name: "display", Period: 100, Duration: 10}, {ID: 1, Name: "flight control", Period: 50, Duration: 20}},
		Windows:    []api.Window{{Start: 50, Length: 20, Partition: 1}, {Start: 10, Length: 16, Partition: 1}},
		Regions:    []api.Region{{Base: 8192, Size: 16, Partition: 2, Rights: 3, Shared: true}, {Base: 255, Size: 255, Partition: 1}},
		Ports:      []api.Port{{ID: 4, Partition: 1, Name: "out", Output: true, Queuing: true, Size: 8}, {ID: 3, Partition: 2, Name: `a"b`, Size: 64}},
		Channels:   []api.Channel{{ID: 9, Source: 4, Dests: []uint16{6, 3, 5}}, {ID: 8, Source: 4, Dests: []uint16{3}}, {ID: 7, Source: 4}},
	}
}

const allKindsText = `module {
	frame 100;
	partition 2 "display" { period 100; duration 10; }
	partition 1 "flight control" { period 50; duration 20; }
	window 1 { start 50; length 20; }
	window 1 { start 10; length 16; }
	region 2 { base 0x2000; size 16; rights rw; shared; }
	region 1 { base 0xff; size 255; rights none; }
	port 4 "out" { partition 1; output; queuing; size 8; }
	port 3 "a\"b" { partition 2; input; sampling; size 64; }
	channel 9 { source 4; to 6, 3, 5; }
	channel 8 { source 4; to 3; }
	channel 7 { source 4; to; }
}
`

const allKindsCanonical = `module {
	frame 100;
	partition 1 "flight control" { period 50; duration 20; }
	partition 2 "display" { period 100; duration 10; }
	window 1 { start 10; length 16; }
	window 1 { start 50; length 20; }
	region 1 { base 0xff; size 255; rights none; }
	region 2 { base 0x2000; size 16; rights rw; shared; }
	port 3 "a\"b" { partition 2; input; sampling; size 64; }
	port 4 "out" { partition 1; output; queuing; size 8; }
	channel 7 { source 4; to; }
	channel 8 { source 4; to 3; }
	channel 9 { source 4; to 3, 5, 6; }
}
`

// P8.1
func TestPrint(t *testing.T) {
	if got := Print(allKinds()); got != allKindsText {
		t.Errorf("got %q, want %q", got, allKindsText)
	}
	if got, want := Print(api.Config{}), "module {\n\tframe 0;\n}\n"; got != want {
		t.Errorf("got %q, want %q", got, want)
	}
	for frame, form := range map[uint64]string{0: "0", 1: "1", 10: "10", 1 << 32: "4294967296", top: "18446744073709551615"} {
		if got, want := Print(api.Config{Frame: frame}), "module {\n\tframe "+form+";\n}\n"; got != want {
			t.Errorf("got %q, want %q", got, want)
		}
	}
}

// P8.1
func TestRecords(t *testing.T) {
	inside := strings.TrimSuffix(strings.TrimPrefix(allKindsText, "module {\n\tframe 100;\n"), "}\n")
	if got, want := Records(allKinds()), strings.ReplaceAll(inside, "\t", ""); got != want {
		t.Errorf("got %q, want %q", got, want)
	}
	for _, frame := range []uint64{0, 10, top} {
		if got := Records(api.Config{Frame: frame}); got != "" {
			t.Errorf("got %q", got)
		}
	}
}

// P8.1, P8.3: empty lists stand for missing ones.
func TestEmptyLists(t *testing.T) {
	c := api.Config{Frame: 3, Partitions: []api.Partition{}, Windows: []api.Window{}, Regions: []api.Region{}, Ports: []api.Port{}, Channels: []api.Channel{}}
	checkLines(t, c)
	c.Channels = []api.Channel{{ID: 1, Source: 2, Dests: []uint16{}}}
	checkLines(t, c, "channel 1 { source 2; to; }")
}

// P8.1
func TestPartitions(t *testing.T) {
	checkLines(t, api.Config{Partitions: []api.Partition{{Name: "a"}, {ID: 65535, Name: "b", Period: top, Duration: top}, {ID: 1, Name: "c", Period: 2, Duration: 3}}},
		`partition 0 "a" { period 0; duration 0; }`,
		`partition 65535 "b" { period 18446744073709551615; duration 18446744073709551615; }`,
		`partition 1 "c" { period 2; duration 3; }`)
}

// P8.1
func TestWindows(t *testing.T) {
	checkLines(t, api.Config{Windows: []api.Window{{}, {Start: top, Length: top, Partition: 65535}, {Start: 16, Length: 17, Partition: 18}}},
		"window 0 { start 0; length 0; }",
		"window 65535 { start 18446744073709551615; length 18446744073709551615; }",
		"window 18 { start 16; length 17; }")
}

// P8.1: the base is the only hexadecimal number.
func TestRegions(t *testing.T) {
	checkLines(t, api.Config{Regions: []api.Region{{Base: 4096, Size: 8, Partition: 1, Rights: 3, Shared: true}, {}, {Base: top, Size: top, Partition: 65535, Rights: 7, Shared: true}, {Base: 10, Size: 10, Partition: 10, Rights: 4}}},
		"region 1 { base 0x1000; size 8; rights rw; shared; }",
		"region 0 { base 0x0; size 0; rights none; }",
		"region 65535 { base 0xffffffffffffffff; size 18446744073709551615; rights rwx; shared; }",
		"region 10 { base 0xa; size 10; rights x; }")
	for rights, word := range []string{"none", "r", "w", "rw", "x", "rx", "wx", "rwx"} {
		r := api.Region{Base: 1, Size: 2, Partition: 3, Rights: uint8(rights)}
		shared := r
		shared.Shared = true
		checkLines(t, api.Config{Regions: []api.Region{r, shared}},
			"region 3 { base 0x1; size 2; rights "+word+"; }",
			"region 3 { base 0x1; size 2; rights "+word+"; shared; }")
	}
}

// P8.1: the direction and the kind of a port do not depend on each other.
func TestPorts(t *testing.T) {
	checkLines(t, api.Config{Ports: []api.Port{{Name: "a"}, {ID: 65535, Partition: 65535, Name: "b", Output: true, Queuing: true, Size: math.MaxUint32}, {ID: 1, Partition: 2, Name: "c", Output: true, Size: 3}, {ID: 4, Partition: 5, Name: "d", Queuing: true, Size: 6}}},
		`port 0 "a" { partition 0; input; sampling; size 0; }`,
		`port 65535 "b" { partition 65535; output; queuing; size 4294967295; }`,
		`port 1 "c" { partition 2; output; sampling; size 3; }`,
		`port 4 "d" { partition 5; input; queuing; size 6; }`)
}

// P8.1: destinations are neither sorted nor compared.
func TestChannels(t *testing.T) {
	checkLines(t, api.Config{Channels: []api.Channel{{ID: 1, Source: 2}, {Dests: []uint16{0}}, {ID: 65535, Source: 65535, Dests: []uint16{65535, 0}}, {ID: 3, Source: 4, Dests: []uint16{6, 5, 6, 4}}}},
		"channel 1 { source 2; to; }",
		"channel 0 { source 0; to 0; }",
		"channel 65535 { source 65535; to 65535, 0; }",
		"channel 3 { source 4; to 6, 5, 6, 4; }")
}

// P8.1: the bytes of a name have no effect on the spaces around it.
func TestNames(t *testing.T) {
	forms := map[string]string{`a"b`: `"a\"b"`, `\`: `"\\"`, `\"`: `"\\\""`, ";": `";"`, ",": `","`, " ; ": `" ; "`, "{": `"{"`, "}": `"}"`, "# a": `"# a"`, " ": `" "`, "module": `"module"`, strings.Repeat(`"`, 30): `"` + strings.Repeat(`\"`, 30) + `"`}
	for x := byte(32); x <= 126; x++ {
		forms[string(x)] = quoted(string(x))
	}
	for name, form := range forms {
		checkLines(t, api.Config{Partitions: []api.Partition{{ID: 1, Name: name, Period: 2, Duration: 3}}, Ports: []api.Port{{ID: 4, Partition: 5, Name: name, Size: 6}}},
			"partition 1 "+form+" { period 2; duration 3; }",
			"port 4 "+form+" { partition 5; input; sampling; size 6; }")
	}
}

// some has few or no elements.
func some[T any](source *rand.Rand, random func() T) []T {
	l := make([]T, source.Intn(5))
	for i := range l {
		l[i] = random()
	}
	return l
}

// randomConfig is within limits, and many of its records agree in some fields.
func randomConfig(source *rand.Rand) api.Config {
	wide := func() uint64 {
		return []uint64{0, 1, 2, 9, 10, 16, 1 << 16, 1 << 32, top, source.Uint64()}[source.Intn(10)]
	}
	id := func() uint16 { return uint16(wide()) }
	flag := func() bool { return source.Intn(2) == 0 }
	name := func() string {
		b := make([]byte, 1+source.Intn(api.MaxName))
		for i := range b {
			b[i] = byte(32 + source.Intn(95))
		}
		return string(b[:1+source.Intn(len(b))])
	}
	return api.Config{
		Frame:      wide(),
		Partitions: some(source, func() api.Partition { return api.Partition{ID: id(), Name: name(), Period: wide(), Duration: wide()} }),
		Windows:    some(source, func() api.Window { return api.Window{Start: wide(), Length: wide(), Partition: id()} }),
		Regions: some(source, func() api.Region {
			return api.Region{Base: wide(), Size: wide(), Partition: id(), Rights: uint8(source.Intn(8)), Shared: flag()}
		}),
		Ports: some(source, func() api.Port {
			return api.Port{ID: id(), Partition: id(), Name: name(), Output: flag(), Queuing: flag(), Size: uint32(wide())}
		}),
		Channels: some(source, func() api.Channel { return api.Channel{ID: id(), Source: id(), Dests: some(source, id)} }),
	}
}

// spaced has the tokens of a line with the spaces that the document specifies.
func spaced(line string) string {
	tokens, _ := lex.Tokens(line)
	s := ""
	for _, token := range tokens[:len(tokens)-1] {
		form := strings.TrimSpace(lex.Join(token))
		if s != "" && (token.Kind != lex.Sign || form != ";" && form != ",") {
			s += " "
		}
		s += form
	}
	return s
}

// P8.1, P8.3, P8.4
func TestRandomConfigurations(t *testing.T) {
	source := rand.New(rand.NewSource(8))
	for range 2000 {
		c := randomConfig(source)
		checkLines(t, c, lines(c)...)
		checkInverse(t, c)
		for _, line := range strings.Split(strings.TrimSuffix(Records(c), "\n"), "\n") {
			if want := spaced(line); line != want {
				t.Errorf("got %q, want %q", line, want)
			}
		}
	}
}

// checkInverse expects that the texts of a configuration are read as this configuration.
func checkInverse(t *testing.T, c api.Config) {
	t.Helper()
	if got, fault := parse.Parse(Print(c)); !conf.Same(got, c) || fault != (api.Fault{}) {
		t.Errorf("%q: got %v", short(Print(c)), fault)
	}
	c.Frame = 0
	if got, fault := parse.Records(Records(c)); !conf.Same(got, c) || fault != (api.Fault{}) {
		t.Errorf("%q: got %v", short(Records(c)), fault)
	}
}

// fullConfig has as many records as the limits permit, and the longest lines.
func fullConfig() api.Config {
	longest := strings.Repeat(`"`, api.MaxName)
	return api.Config{
		Frame:      top,
		Partitions: slices.Repeat([]api.Partition{{ID: 65535, Name: longest, Period: top, Duration: top}}, api.MaxPartitions),
		Windows:    slices.Repeat([]api.Window{{Start: top, Length: top, Partition: 65535}}, api.MaxWindows),
		Regions:    slices.Repeat([]api.Region{{Base: top, Size: top, Partition: 65535, Rights: 7, Shared: true}}, api.MaxRegions),
		Ports:      slices.Repeat([]api.Port{{ID: 65535, Partition: 65535, Name: longest, Output: true, Size: math.MaxUint32}}, api.MaxPorts),
		Channels:   slices.Repeat([]api.Channel{{ID: 65535, Source: 65535, Dests: []uint16{65535, 65534}}}, api.MaxChannels),
	}
}

// P8.1 to P8.4: the text of a configuration within limits is never too long for Parse.
func TestFullConfiguration(t *testing.T) {
	c := fullConfig()
	checkLines(t, c, lines(c)...)
	checkInverse(t, c)
	c.Channels[0].Dests = slices.Repeat([]uint16{65535}, api.MaxLinks)
	for i := range c.Channels[1:] {
		c.Channels[i+1].Dests = nil
	}
	checkLines(t, c, lines(c)...)
	checkInverse(t, c)
	checkCanonical(t, Print(c), Print(conf.Normal(c)))
}

// P8.2
func TestCanonical(t *testing.T) {
	checkCanonical(t, allKindsText, allKindsCanonical)
	checkCanonical(t, allKindsCanonical, allKindsCanonical)
	checkCanonical(t, "module{frame 0;}", "module {\n\tframe 0;\n}\n")
	checkCanonical(t, "# a\nmodule { frame\t0x10; }# b", "module {\n\tframe 16;\n}\n")
	checkCanonical(t, `module { frame 10; channel 0x2 { source 1; to 0x5,4,5; }
		port 1 "p" { partition 1; output; queuing; size 0xffffffff; } region 1 { base 4096; size 0x1000; rights rwx; shared; }
		window 1 { start 5; length 0x5; } window 1 { start 0; length 5; } }`,
		printed(10,
			"window 1 { start 0; length 5; }",
			"window 1 { start 5; length 5; }",
			"region 1 { base 0x1000; size 4096; rights rwx; shared; }",
			`port 1 "p" { partition 1; output; queuing; size 4294967295; }`,
			"channel 2 { source 1; to 4, 5, 5; }"))
}

// P8.2: equal records are kept.
func TestCanonicalOfEqualRecords(t *testing.T) {
	record := "window 1 { start 2; length 3; }"
	checkCanonical(t, "module { frame 1;"+record+record+record+"}", printed(1, record, record, record))
}

// P8.2
func TestFaultsOfCanonical(t *testing.T) {
	checkFault(t, "", api.Fault{Code: api.ErrToken, Part: 1, At: 1})
	checkFault(t, "window 1 { start 0; length 5; }", api.Fault{Code: api.ErrToken, Part: 1, At: 1})
	checkFault(t, "module {\n\tframe 1;\n\twindow 1 { start 1; }\n}\n", api.Fault{Code: api.ErrToken, Part: 3, At: 22})
	checkFault(t, "module { frame 1; }\n}", api.Fault{Code: api.ErrToken, Part: 2, At: 1})
	checkFault(t, "module { frame 1; ? }", api.Fault{Code: api.ErrChar, Part: 1, At: 19})
	checkFault(t, "module { frame 01; }", api.Fault{Code: api.ErrNumber, Part: 1, At: 16})
	checkFault(t, "module { frame 1; window 65536 { start 1; length 1; } }", api.Fault{Code: api.ErrNumber, Part: 1, At: 26})
	checkFault(t, `module { frame 1; partition 1 "" { period 1; duration 1; } }`, api.Fault{Code: api.ErrName, Part: 1, At: 31})
	checkFault(t, strings.Repeat(" ", api.MaxText+1), api.Fault{Code: api.ErrLong})
	window := "window 1 { start 1; length 1; }\n"
	checkFault(t, "module { frame 1;\n"+strings.Repeat(window, api.MaxWindows+1)+"}", api.Fault{Code: api.ErrLimit, Part: api.MaxWindows + 2, At: 1})
	checkCanonical(t, "module { frame 1;\n"+strings.Repeat(window, api.MaxWindows)+"}", printed(1, slices.Repeat([]string{strings.TrimSpace(window)}, api.MaxWindows)...))
}

// P8.2: each part of a text, and the text without each part, has the fault of Parse or a canonical text.
func TestPartsOfTexts(t *testing.T) {
	for at := range len(allKindsText) + 1 {
		for _, s := range []string{allKindsText[:at], allKindsText[at:], allKindsText[:at] + allKindsText[min(at+1, len(allKindsText)):]} {
			c, fault := parse.Parse(s)
			if fault != (api.Fault{}) {
				checkFault(t, s, fault)
			} else {
				checkCanonical(t, s, Print(conf.Normal(c)))
			}
		}
	}
}

func shuffle[T any](source *rand.Rand, l []T) {
	source.Shuffle(len(l), func(i, j int) { l[i], l[j] = l[j], l[i] })
}

// P8.2, P8.4: neither the order of records and destinations nor spacing matters.
func TestCanonicalOfRandomConfigurations(t *testing.T) {
	source := rand.New(rand.NewSource(84))
	for range 1000 {
		c := randomConfig(source)
		normal := conf.Normal(c)
		want := printed(c.Frame, lines(normal)...)
		for range 2 {
			for _, x := range c.Channels {
				shuffle(source, x.Dests)
			}
			records := lines(c)
			shuffle(source, records)
			checkCanonical(t, printed(c.Frame, records...), want)
			tokens, _ := lex.Tokens(printed(c.Frame, records...))
			checkCanonical(t, "#\n"+lex.Join(tokens...)+"\n\n#", want)
		}
		checkCanonical(t, want, want)
	}
}

// P8.3
func TestLine(t *testing.T) {
	c := allKinds()
	checkPlaces(t, c)
	text := strings.Split(allKindsText, "\n")
	for i, record := range lines(c) {
		if text[i+2] != "\t"+record {
			t.Errorf("got %q, want %q", text[i+2], record)
		}
	}
	for place, want := range map[[2]int]int{{api.Partitions, 0}: 3, {api.Partitions, 1}: 4, {api.Windows, 0}: 5, {api.Regions, 1}: 8, {api.Ports, 0}: 9, {api.Channels, 2}: 13, {api.Channels, 3}: 0, {api.Links, 0}: 0, {api.Module, 0}: 0, {api.Partitions, 2}: 0} {
		if got := Line(c, place[0], place[1]); got != want {
			t.Errorf("%v: got %d, want %d", place, got, want)
		}
	}
	checkPlaces(t, api.Config{})
	checkPlaces(t, api.Config{Channels: []api.Channel{{ID: 1, Source: 2, Dests: []uint16{3, 4, 5}}}})
}

// P1: the promises are only about configurations within limits, but no call may panic.
func TestBeyondLimits(t *testing.T) {
	c := fullConfig()
	c = conf.Merge(1, c, c)
	for i := range c.Regions {
		c.Regions[i].Rights = uint8(i)
	}
	for i, name := range []string{"", "\x00", "ä", "\xff\n", strings.Repeat("a", 1<<16)} {
		c.Partitions[i].Name = name
		c.Ports[i].Name = name
	}
	for _, s := range []string{Print(c), Records(c)} {
		if s == "" {
			t.Error("got nothing")
		}
	}
	checkPlaces(t, c)
}

// P1
func TestArbitraryTexts(t *testing.T) {
	source := rand.New(rand.NewSource(1))
	for range 2000 {
		b := make([]byte, source.Intn(30))
		source.Read(b)
		for _, s := range []string{string(b), "module { frame 1; " + string(b) + "}"} {
			if _, fault := parse.Parse(s); fault != (api.Fault{}) {
				checkFault(t, s, fault)
			}
		}
	}
}

// Rule 4: neither is the argument modified, nor what stands behind its lists read.
func TestArguments(t *testing.T) {
	c := allKinds()
	c.Channels[0].Dests = c.Channels[0].Dests[:1]
	c.Partitions, c.Windows, c.Regions, c.Ports, c.Channels = c.Partitions[:1], c.Windows[:1], c.Regions[:1], c.Ports[:1], c.Channels[:1]
	want := conf.Clone(c)
	checkLines(t, c, lines(want)...)
	if !conf.Same(c, want) {
		t.Errorf("got %v, want %v", c, want)
	}
	all := allKinds()
	all.Channels[0].Dests = all.Channels[0].Dests[:1]
	c.Partitions, c.Windows, c.Regions, c.Ports, c.Channels = c.Partitions[:2], c.Windows[:2], c.Regions[:2], c.Ports[:2], c.Channels[:3]
	if !conf.Same(c, all) || !slices.Equal(c.Channels[0].Dests[:3], []uint16{6, 3, 5}) {
		t.Errorf("got %v, want %v", c, all)
	}
}

// Rule 6
func TestConcurrentCalls(t *testing.T) {
	var group sync.WaitGroup
	c := allKinds()
	for range 8 {
		group.Go(func() {
			for range 50 {
				checkLines(t, c, lines(c)...)
				checkCanonical(t, allKindsText, allKindsCanonical)
				checkFault(t, "module;", api.Fault{Code: api.ErrToken, Part: 1, At: 7})
			}
		})
	}
	group.Wait()
}
