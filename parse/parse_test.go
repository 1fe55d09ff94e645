package parse

import (
	"fmt"
	"math"
	"math/rand"
	"slices"
	"strconv"
	"strings"
	"sync"
	"testing"

	"fenestra/api"
	"fenestra/conf"
	"fenestra/lex"
)

// short is the beginning of what a message says of x, since some configurations have thousands of records.
func short(x any) string { return fmt.Sprintf("%.300s", fmt.Sprintf("%+v", x)) }

func check(t *testing.T, call func(string) (api.Config, api.Fault), s string, want api.Config, wantFault api.Fault) {
	t.Helper()
	if got, fault := call(s); !conf.Same(got, want) || fault != wantFault {
		t.Errorf("%.300q: got %s, %v, want %s, %v", s, short(got), fault, short(want), wantFault)
	}
}

func checkParse(t *testing.T, s string, want api.Config) {
	t.Helper()
	check(t, Parse, s, want, api.Fault{})
}

func checkRecords(t *testing.T, s string, want api.Config) {
	t.Helper()
	check(t, Records, s, want, api.Fault{})
}

// checkFault expects a fault at the text's only @, which stands in front of a token and is taken away.
func checkFault(t *testing.T, call func(string) (api.Config, api.Fault), marked string, code api.Code) {
	t.Helper()
	at := strings.Index(marked, "@")
	s := marked[:at] + marked[at+1:]
	line, col := lex.Place(s, at)
	check(t, call, s, api.Config{}, api.Fault{Code: code, Part: line, At: col})
}

// checkBySyntax compares Parse and Records with the syntax of the document.
func checkBySyntax(t *testing.T, s string) {
	t.Helper()
	c, fault := result(s, moduleSyntax)
	check(t, Parse, s, c, fault)
	c, fault = result(s, recordsSyntax)
	check(t, Records, s, c, fault)
}

func module(records string) string { return "module { frame 10; " + records + " }" }

// allKinds has a record of each kind, and of each form that a kind may have.
const allKinds = `partition 1 "a" { period 10; duration 3; }
window 2 { start 4; length 5; }
region 3 { base 0x1000; size 6; rights none; }
region 4 { base 7; size 8; rights rwx; shared; }
port 5 "b" { partition 9; input; sampling; size 10; }
port 6 "c" { partition 11; output; queuing; size 12; }
channel 7 { source 13; to; }
channel 8 { source 14; to 15; }
channel 9 { source 16; to 17, 18, 17; }`

func allKindsConfig() api.Config {
	return api.Config{
		Partitions: []api.Partition{{ID: 1, Name: "a", Period: 10, Duration: 3}},
		Windows:    []api.Window{{Start: 4, Length: 5, Partition: 2}},
		Regions:    []api.Region{{Base: 4096, Size: 6, Partition: 3}, {Base: 7, Size: 8, Partition: 4, Rights: 7, Shared: true}},
		Ports:      []api.Port{{ID: 5, Partition: 9, Name: "b", Size: 10}, {ID: 6, Partition: 11, Name: "c", Output: true, Queuing: true, Size: 12}},
		Channels:   []api.Channel{{ID: 7, Source: 13}, {ID: 8, Source: 14, Dests: []uint16{15}}, {ID: 9, Source: 16, Dests: []uint16{17, 18, 17}}},
	}
}

func withFrame(frame uint64, c api.Config) api.Config {
	c.Frame = frame
	return c
}

// P7.1
func TestParse(t *testing.T) {
	checkParse(t, "module { frame 10; window 1 { start 0; length 5; } }", api.Config{Frame: 10, Windows: []api.Window{{Length: 5, Partition: 1}}})
	checkParse(t, "module{frame 0;}", api.Config{})
	checkParse(t, "module{frame 0xff;}", api.Config{Frame: 255})
	checkParse(t, "# a module\nmodule {\n\tframe 18446744073709551615;\n}\n# end", api.Config{Frame: math.MaxUint64})
	checkParse(t, module(allKinds), withFrame(10, allKindsConfig()))
}

// P7.1: the direction and the kind of a port do not depend on each other.
func TestPorts(t *testing.T) {
	for direction, output := range map[string]bool{"input": false, "output": true} {
		for kind, queuing := range map[string]bool{"sampling": false, "queuing": true} {
			s := `port 1 "p" { partition 2; ` + direction + "; " + kind + "; size 3; }"
			checkParse(t, module(s), api.Config{Frame: 10, Ports: []api.Port{{ID: 1, Partition: 2, Name: "p", Output: output, Queuing: queuing, Size: 3}}})
		}
	}
}

// P7.1
func TestRegions(t *testing.T) {
	for word, rights := range rightsOf {
		for shared, is := range map[string]bool{"": false, "shared;": true} {
			s := "region 1 { base 2; size 3; rights " + word + ";" + shared + "}"
			checkParse(t, module(s), api.Config{Frame: 10, Regions: []api.Region{{Base: 2, Size: 3, Partition: 1, Rights: rights, Shared: is}}})
		}
	}
}

// P7.1: a name may be one of the words and signs of the syntax.
func TestNames(t *testing.T) {
	for form, name := range map[string]string{`"a\"b"`: `a"b`, `"\\"`: `\`, `"}"`: "}", `"partition 1 {"`: "partition 1 {", `" "`: " ", `"# a"`: "# a", `"1"`: "1", `"` + strings.Repeat("~", 30) + `"`: strings.Repeat("~", 30)} {
		checkParse(t, module("partition 1 "+form+" { period 2; duration 3; }"), api.Config{Frame: 10, Partitions: []api.Partition{{ID: 1, Name: name, Period: 2, Duration: 3}}})
		checkParse(t, module("port 1 "+form+" { partition 2; input; sampling; size 3; }"), api.Config{Frame: 10, Ports: []api.Port{{ID: 1, Partition: 2, Name: name, Size: 3}}})
	}
}

// P7.1: the sections may be mixed, and records are neither sorted nor compared.
func TestOrder(t *testing.T) {
	s := `window 2 { start 9; length 0; } partition 5 "b" { period 0; duration 1; } window 1 { start 3; length 1; }
		channel 4 { source 4; to 4, 3, 4; } partition 5 "b" { period 0; duration 1; } partition 1 "a" { period 0; duration 0; }
		window 2 { start 9; length 0; } channel 1 { source 0; to 0; }`
	checkParse(t, module(s), api.Config{
		Frame:      10,
		Partitions: []api.Partition{{ID: 5, Name: "b", Duration: 1}, {ID: 5, Name: "b", Duration: 1}, {ID: 1, Name: "a"}},
		Windows:    []api.Window{{Start: 9, Partition: 2}, {Start: 3, Length: 1, Partition: 1}, {Start: 9, Partition: 2}},
		Channels:   []api.Channel{{ID: 4, Source: 4, Dests: []uint16{4, 3, 4}}, {ID: 1, Dests: []uint16{0}}},
	})
}

// P7.1: the greatest numbers that each place permits.
func TestGreatestNumbers(t *testing.T) {
	s := `module { frame 0xffffffffffffffff;
		partition 65535 "a" { period 18446744073709551615; duration 0xffffffffffffffff; }
		window 0xffff { start 18446744073709551615; length 18446744073709551615; }
		region 65535 { base 0xffffffffffffffff; size 18446744073709551615; rights w; }
		port 65535 "b" { partition 65535; input; queuing; size 4294967295; }
		channel 65535 { source 65535; to 65535, 0xffff; }
	}`
	checkParse(t, s, api.Config{
		Frame:      math.MaxUint64,
		Partitions: []api.Partition{{ID: 65535, Name: "a", Period: math.MaxUint64, Duration: math.MaxUint64}},
		Windows:    []api.Window{{Start: math.MaxUint64, Length: math.MaxUint64, Partition: 65535}},
		Regions:    []api.Region{{Base: math.MaxUint64, Size: math.MaxUint64, Partition: 65535, Rights: api.Write}},
		Ports:      []api.Port{{ID: 65535, Partition: 65535, Name: "b", Queuing: true, Size: math.MaxUint32}},
		Channels:   []api.Channel{{ID: 65535, Source: 65535, Dests: []uint16{65535, 65535}}},
	})
}

// P7.1
func TestTooGreatNumbers(t *testing.T) {
	for _, s := range []string{
		`partition @N "a" { period 1; duration 1; }`,
		"window @N { start 1; length 1; }",
		"region @N { base 1; size 1; rights r; }",
		`port @N "a" { partition 1; input; sampling; size 1; }`,
		`port 1 "a" { partition @N; input; sampling; size 1; }`,
		"channel @N { source 1; to 1; }",
		"channel 1 { source @N; to 1; }",
		"channel 1 { source 1; to @N; }",
		"channel 1 { source 1; to @N, 2; }",
		"channel 1 { source 1; to 1,\n @N; }",
	} {
		for _, n := range []string{"65536", "0x10000", "65537", "131071", "4294967296", "18446744073709551615", "0xffffffffffffffff"} {
			checkFault(t, Parse, module(strings.Replace(s, "N", n, 1)), api.ErrNumber)
			checkFault(t, Records, strings.Replace(s, "N", n, 1), api.ErrNumber)
		}
	}
	for _, n := range []string{"4294967296", "0x100000000", "4294967297", "18446744073709551615", "0xffffffffffffffff"} {
		checkFault(t, Parse, module(`port 1 "a" { partition 1; input; sampling; size @`+n+"; }"), api.ErrNumber)
	}
}

// P7.1
func TestWrongTokens(t *testing.T) {
	for _, s := range []string{
		"@", "\n@", " @;", "@1", `@"module"`, "@frame 1;", "@window 1 { start 1; length 1; }", "@modul {", "@modulex {",
		"module @", "module @;", "module @frame 1;", `module @"{" frame 1; }`, "module @module {",
		"module {@", "module { @}", "module { @1; }", "module { @window 1 { start 1; length 1; } frame 1; }", "module { @{ frame 1; }",
		"module { frame @", "module { frame @; }", "module { frame @frame; }", `module { frame @"1"; }`,
		"module { frame 1 @", "module { frame 1 @}", "module { frame 1 @, }", "module { frame 1 @2; }",
		"module { frame 1;@", "module { frame 1; @; }", "module { frame 1; @frame 1; }", "module { frame 1; @{", "module { frame 1; @1", `module { frame 1; @"window"`,
		"module { frame 1; } @}", "module { frame 1; } @;", "module { frame 1; }\n@module { frame 1; }", "module { frame 1; } @window 1 { start 1; length 1; }",
	} {
		checkFault(t, Parse, s, api.ErrToken)
	}
}

// P7.1
func TestWrongTokensOfRecords(t *testing.T) {
	for _, s := range []string{
		"@windows 1 { start 1; length 1; }",
		"@start 1;",
		"@shared;",
		`@"window" 1 { start 1; length 1; }`,
		"@; window",
		"@1",
		"@{ window 1 { start 1; length 1; } }",
		"window @{ start 1; length 1; }",
		`window @"1" { start 1; length 1; }`,
		"window @one { start 1; length 1; }",
		`window 1 @"a" { start 1; length 1; }`,
		"window 1 @start 1; length 1;",
		"window 1 @, 2 { start 1; length 1; }",
		"window 1 { @length 1; start 1; }",
		"window 1 { @}",
		"window 1 { start @; length 1; }",
		"window 1 { start 1; @start 1; length 1; }",
		"window 1 { start 1 @length 1; }",
		"window 1 { start 1 @, length 1; }",
		"window 1 { start 1; length 1 @}",
		"window 1 { start 1; length 1; @; }",
		"window 1 { start 1; length 1; @window 1 { start 1; length 1; }",
		"partition 1 @{ period 1; duration 1; }",
		`partition @"a" 1 { period 1; duration 1; }`,
		"partition 1 @a { period 1; duration 1; }",
		`partition 1 "a" @"b" { period 1; duration 1; }`,
		`partition 1 "a" { @duration 1; period 1; }`,
		`partition 1 "a" { period 1; @}`,
	} {
		checkFault(t, Parse, module(s), api.ErrToken)
		checkFault(t, Records, s, api.ErrToken)
	}
}

// P7.1
func TestWrongTokensOfRegions(t *testing.T) {
	for _, s := range []string{
		`region 1 @"a" { base 1; size 1; rights r; }`,
		"region 1 { @size 1; base 1; rights r; }",
		"region 1 { base 1; size 1; @}",
		"region 1 { base 1; size 1; @shared; rights r; }",
		"region 1 { base 1; size 1; rights @; }",
		"region 1 { base 1; size 1; rights @xr; }",
		"region 1 { base 1; size 1; rights @rr; }",
		"region 1 { base 1; size 1; rights @rwxr; }",
		"region 1 { base 1; size 1; rights @no; }",
		"region 1 { base 1; size 1; rights @shared; }",
		`region 1 { base 1; size 1; rights @"r"; }`,
		"region 1 { base 1; size 1; rights @7; }",
		"region 1 { base 1; size 1; rights r @w; }",
		"region 1 { base 1; size 1; rights r @}",
		"region 1 { base 1; size 1; rights r; @; }",
		"region 1 { base 1; size 1; rights r; @rights r; }",
		`region 1 { base 1; size 1; rights r; @"shared"; }`,
		"region 1 { base 1; size 1; rights r; shared @}",
		"region 1 { base 1; size 1; rights r; shared; @shared; }",
	} {
		checkFault(t, Parse, module(s), api.ErrToken)
		checkFault(t, Records, s, api.ErrToken)
	}
}

// P7.1
func TestWrongTokensOfPorts(t *testing.T) {
	for _, s := range []string{
		"port 1 @{ partition 1; input; sampling; size 1; }",
		`port 1 "a" { @input; partition 1; sampling; size 1; }`,
		`port 1 "a" { partition @"a"; output; sampling; size 1; }`,
		`port 1 "a" { partition 1 @"a" { period 1; duration 1; } }`,
		`port 1 "a" { partition 1; @sampling; input; size 1; }`,
		`port 1 "a" { partition 1; @"output"; sampling; size 1; }`,
		`port 1 "a" { partition 1; @size 1; }`,
		`port 1 "a" { partition 1; input @sampling; size 1; }`,
		`port 1 "a" { partition 1; input; @input; size 1; }`,
		`port 1 "a" { partition 1; input; @output; sampling; size 1; }`,
		`port 1 "a" { partition 1; input; @size 1; }`,
		`port 1 "a" { partition 1; output; @"queuing"; size 1; }`,
		`port 1 "a" { partition 1; output; queuing @size 1; }`,
		`port 1 "a" { partition 1; output; queuing; @queuing; size 1; }`,
		`port 1 "a" { partition 1; output; sampling; @}`,
	} {
		checkFault(t, Parse, module(s), api.ErrToken)
		checkFault(t, Records, s, api.ErrToken)
	}
}

// P7.1
func TestWrongTokensOfChannels(t *testing.T) {
	for _, s := range []string{
		`channel 1 @"a" { source 1; to; }`,
		"channel 1 { @to 1; source 1; }",
		"channel 1 { source 1 @, 2; to 1; }",
		"channel 1 { source 1; @}",
		"channel 1 { source 1; to @}",
		"channel 1 { source 1; to @to 1; }",
		"channel 1 { source 1; to @, 1; }",
		"channel 1 { source 1; to 1, @; }",
		"channel 1 { source 1; to 1, @, 2; }",
		"channel 1 { source 1; to 1 @2; }",
		"channel 1 { source 1; to 1 @}",
		`channel 1 { source 1; to @"1"; }`,
		`channel 1 { source 1; to @";" }`,
		`channel 1 { source 1; to 1 @"," 2; }`,
		"channel 1 { source 1; to; @to; }",
	} {
		checkFault(t, Parse, module(s), api.ErrToken)
		checkFault(t, Records, s, api.ErrToken)
	}
}

// P7.1: the text ends in front of each token.
func TestEnds(t *testing.T) {
	tokens, _ := lex.Tokens(module(allKinds))
	for i := range len(tokens) - 1 {
		checkFault(t, Parse, lex.Join(tokens[:i]...)+"@", api.ErrToken)
		checkFault(t, Parse, lex.Join(tokens[:i]...)+"\n# end\n @", api.ErrToken)
	}
}

// P7.1: the fault of lex.Tokens precedes all others, wherever it is.
func TestFaultsOfTokens(t *testing.T) {
	for _, call := range []func(string) (api.Config, api.Fault){Parse, Records} {
		for _, s := range []string{"; module @A", "module { frame 1; }\n } @?", "window 65536 { @_", "@\x00", "window 1 { @- start 1; }"} {
			checkFault(t, call, s, api.ErrChar)
		}
		for _, s := range []string{"} @01", "module { frame @18446744073709551616; }", "window @0x10000000000000000 {", "window 65536 { start @1a; }"} {
			checkFault(t, call, s, api.ErrNumber)
		}
		for _, s := range []string{`; @""`, `partition 65536 @"a`, `partition 1 @"ä"`, `port 1 @"` + strings.Repeat("a", 31) + `"`} {
			checkFault(t, call, s, api.ErrName)
		}
	}
}

// P7.1
func TestLongTexts(t *testing.T) {
	for _, s := range []string{module(allKinds), allKinds, "}", "?", ""} {
		long := s + strings.Repeat(" ", api.MaxText+1-len(s))
		checkBySyntax(t, long[1:])
		checkBySyntax(t, long[:api.MaxText])
		for _, text := range []string{long, long + "?"} {
			check(t, Parse, text, api.Config{}, api.Fault{Code: api.ErrLong})
			check(t, Records, text, api.Config{}, api.Fault{Code: api.ErrLong})
		}
	}
	full := module("") + "#" + strings.Repeat("x", api.MaxText-len(module(""))-1)
	checkParse(t, full, api.Config{Frame: 10})
}

// kinds are the shortest records of the sections 1 to 5 with their limits.
var kinds = []struct {
	record string
	limit  int
}{
	{`partition 1 "a" { period 1; duration 1; }`, api.MaxPartitions},
	{"window 1 { start 1; length 1; }", api.MaxWindows},
	{"region 1 { base 1; size 1; rights r; }", api.MaxRegions},
	{`port 1 "a" { partition 1; input; sampling; size 1; }`, api.MaxPorts},
	{"channel 1 { source 1; to; }", api.MaxChannels},
}

// P7.1, P7.4
func TestLimits(t *testing.T) {
	for section, kind := range kinds {
		full := strings.Repeat(kind.record+"\n", kind.limit)
		c, fault := Parse(module(full))
		if got := conf.Counts(c)[section+1]; got != kind.limit || fault != (api.Fault{}) {
			t.Errorf("%s: got %d records, %v", kind.record, got, fault)
		}
		word, rest, _ := strings.Cut(kind.record, " ")
		for _, more := range []string{kind.record, word + ";", word + " 65536", word, kind.record + kind.record, word + " " + rest[:len(rest)-1]} {
			checkFault(t, Parse, module(full+"@"+more), api.ErrLimit)
			checkFault(t, Records, full+"@"+more, api.ErrLimit)
		}
		checkFault(t, Parse, module(full+" @; "+kind.record), api.ErrToken)
		checkFault(t, Parse, module("window @65536; "+full+kind.record), api.ErrNumber)
		for _, other := range kinds {
			if other != kind {
				checkBySyntax(t, module(full+other.record))
			}
		}
	}
}

// P7.1, P7.4: all sections are full at once.
func TestFullConfiguration(t *testing.T) {
	s := ""
	for _, kind := range kinds {
		s += strings.Repeat(kind.record, kind.limit)
	}
	// A channel has all the destinations.
	s = strings.Replace(s, "to;", "to 1"+strings.Repeat(",2", api.MaxLinks-1)+";", 1)
	c, fault := Parse(module(s))
	if counts := conf.Counts(c); counts != [7]int{0, 64, 1024, 1024, 1024, 512, 1024} || fault != (api.Fault{}) {
		t.Errorf("got %v, %v", counts, fault)
	}
	checkFault(t, Parse, module(strings.Replace(s, "channel 1 { source 1; to;", "channel 1 { source 1; to @1;", 1)), api.ErrLimit)
	checkFault(t, Parse, module(s+"@channel 1 { source 1; to 1; }"), api.ErrLimit)
}

// P7.1: the destinations of all channels are counted together.
func TestLimitOfLinks(t *testing.T) {
	channel := func(n int) string {
		return "channel 1 { source 1; to " + strings.TrimSuffix(strings.Repeat("7, ", n), ", ") + "; }\n"
	}
	for _, full := range []string{channel(api.MaxLinks), channel(0) + channel(api.MaxLinks-1) + channel(1), strings.Repeat(channel(4), api.MaxLinks/4), strings.Repeat(channel(2), api.MaxChannels-1)} {
		links := strings.Count(full, "7")
		c, fault := Parse(module(full))
		if got := conf.Counts(c)[api.Links]; got != links || fault != (api.Fault{}) {
			t.Errorf("got %d links, %v, want %d", got, fault, links)
		}
	}
	full := channel(1000) + channel(24)
	checkBySyntax(t, full+channel(0))
	for _, more := range []string{"to @1; }", "to @1, 2; }", "to @1 }", "to @65535", "to\n\t@1;"} {
		checkFault(t, Parse, module(full+"channel 1 { source 1; "+more), api.ErrLimit)
		checkFault(t, Records, full+"channel 1 { source 1; "+more, api.ErrLimit)
	}
	checkFault(t, Records, "channel 1 { source 1; to "+strings.Repeat("7, ", api.MaxLinks)+"@7; }", api.ErrLimit)
	checkFault(t, Records, full+"channel 1 { source 1; to @, 1; }", api.ErrToken)
	// Of the errors of one token, the document mentions ErrNumber first.
	checkFault(t, Records, full+"channel 1 { source 1; to @65536; }", api.ErrNumber)
	checkFault(t, Records, full+"channel 1 { source @65536; to 1; }", api.ErrNumber)
}

// randomConfig has records of all kinds, and most of its numbers are small or the greatest ones.
func randomConfig(source *rand.Rand) api.Config {
	n := func(bits int) uint64 {
		x := source.Uint64() >> source.Intn(64)
		if source.Intn(4) == 0 {
			x = math.MaxUint64
		}
		return x & (1<<bits - 1)
	}
	id := func() uint16 { return uint16(n(16)) }
	name := func() string {
		b := make([]byte, 1+source.Intn(30))
		for i := range b {
			b[i] = byte(32 + source.Intn(95))
		}
		return string(b)
	}
	c := api.Config{Frame: n(64)}
	for range source.Intn(4) {
		c.Partitions = append(c.Partitions, api.Partition{ID: id(), Name: name(), Period: n(64), Duration: n(64)})
	}
	for range source.Intn(4) {
		c.Windows = append(c.Windows, api.Window{Start: n(64), Length: n(64), Partition: id()})
	}
	for range source.Intn(4) {
		c.Regions = append(c.Regions, api.Region{Base: n(64), Size: n(64), Partition: id(), Rights: uint8(source.Intn(8)), Shared: source.Intn(2) == 0})
	}
	for range source.Intn(4) {
		c.Ports = append(c.Ports, api.Port{ID: id(), Partition: id(), Name: name(), Output: source.Intn(2) == 0, Queuing: source.Intn(2) == 0, Size: uint32(n(32))})
	}
	for range source.Intn(4) {
		x := api.Channel{ID: id(), Source: id()}
		for range source.Intn(4) {
			x.Dests = append(x.Dests, id())
		}
		c.Channels = append(c.Channels, x)
	}
	return c
}

func quoted(name string) string {
	return `"` + strings.NewReplacer(`\`, `\\`, `"`, `\"`).Replace(name) + `"`
}

func wordIf(is bool, yes, no string) string {
	if is {
		return yes
	}
	return no
}

// lines are the records of each section of a configuration.
func lines(c api.Config) [5][]string {
	var l [5][]string
	for _, p := range c.Partitions {
		l[0] = append(l[0], fmt.Sprintf("partition %d %s { period %#x ; duration %d ; }", p.ID, quoted(p.Name), p.Period, p.Duration))
	}
	for _, w := range c.Windows {
		l[1] = append(l[1], fmt.Sprintf("window %#x { start %d ; length %#x ; }", w.Partition, w.Start, w.Length))
	}
	for _, r := range c.Regions {
		rights := "none"
		if r.Rights != 0 {
			rights = wordIf(r.Rights&1 != 0, "r", "") + wordIf(r.Rights&2 != 0, "w", "") + wordIf(r.Rights&4 != 0, "x", "")
		}
		l[2] = append(l[2], fmt.Sprintf("region %d { base %#x ; size %d ; rights %s ; %s }", r.Partition, r.Base, r.Size, rights, wordIf(r.Shared, "shared ;", "")))
	}
	for _, p := range c.Ports {
		l[3] = append(l[3], fmt.Sprintf("port %d %s { partition %d ; %s ; %s ; size %d ; }", p.ID, quoted(p.Name), p.Partition, wordIf(p.Output, "output", "input"), wordIf(p.Queuing, "queuing", "sampling"), p.Size))
	}
	for _, x := range c.Channels {
		var dests []string
		for _, d := range x.Dests {
			dests = append(dests, strconv.Itoa(int(d)))
		}
		l[4] = append(l[4], fmt.Sprintf("channel %d { source %#x ; to %s ; }", x.ID, x.Source, strings.Join(dests, " , ")))
	}
	return l
}

// mixed is a text of the records: the sections are mixed, but each one keeps its order.
func mixed(source *rand.Rand, l [5][]string) string {
	s := ""
	for slices.ContainsFunc(l[:], func(x []string) bool { return len(x) > 0 }) {
		i := source.Intn(len(l))
		if len(l[i]) > 0 {
			s += l[i][0] + "\n"
			l[i] = l[i][1:]
		}
	}
	return s
}

// P7.1, P7.2
func TestRandomConfigurations(t *testing.T) {
	source := rand.New(rand.NewSource(7))
	for range 2000 {
		c := randomConfig(source)
		records := mixed(source, lines(c))
		checkParse(t, fmt.Sprintf("module { frame %d ; %s }", c.Frame, records), c)
		checkRecords(t, records, withFrame(0, c))
	}
}

// pieces are tokens of all kinds: all words of the syntax, numbers at the bounds, names that are like words, numbers and signs.
var pieces = strings.Fields(`module frame partition period duration window start length region base size rights none r w x rw rx wx rwx shared
	port input output sampling queuing channel source to other 0 1 65535 65536 0xffff 0x10000 4294967295 4294967296 18446744073709551615
	"module" "window" "shared" "r" "input" "1" "{" "}" ";" "," { } ; ,`)

// edited has one token left out, put in, replaced, exchanged or doubled.
func edited(source *rand.Rand, tokens []string) []string {
	if len(tokens) == 0 {
		return []string{pieces[source.Intn(len(pieces))]}
	}
	at, other := source.Intn(len(tokens)), source.Intn(len(tokens))
	l := slices.Clone(tokens)
	switch source.Intn(5) {
	case 0:
		return slices.Delete(l, at, at+1)
	case 1:
		return slices.Insert(l, at, pieces[source.Intn(len(pieces))])
	case 2:
		l[at] = pieces[source.Intn(len(pieces))]
	case 3:
		l[at], l[other] = l[other], l[at]
	case 4:
		return slices.Insert(l, at, l[other])
	}
	return l
}

// texts has the tokens of a text one by one.
func texts(s string) []string {
	tokens, _ := lex.Tokens(s)
	l := make([]string, len(tokens)-1)
	for i := range l {
		l[i] = strings.TrimSpace(lex.Join(tokens[i]))
	}
	return l
}

// P7.1, P7.2
func TestEditedTexts(t *testing.T) {
	source := rand.New(rand.NewSource(77))
	for range 4000 {
		c := randomConfig(source)
		s := mixed(source, lines(c))
		if source.Intn(2) == 0 {
			s = module(s)
		}
		tokens := texts(s)
		for range 1 + source.Intn(3) {
			tokens = edited(source, tokens)
		}
		checkBySyntax(t, strings.Join(tokens, wordIf(source.Intn(2) == 0, " ", "\n")))
	}
}

// P7.1, P7.2: each token of a text with all kinds of records is left out, replaced by each piece, and has each piece in front of it.
func TestEachEdit(t *testing.T) {
	for _, s := range []string{module(allKinds), allKinds} {
		tokens := texts(s)
		for at := range len(tokens) + 1 {
			before, rest := strings.Join(tokens[:at], " ")+" ", " "+strings.Join(tokens[at:], " ")
			checkBySyntax(t, before)
			checkBySyntax(t, rest)
			for _, piece := range pieces {
				checkBySyntax(t, before+piece+rest)
				if at < len(tokens) {
					checkBySyntax(t, before+piece+" "+strings.Join(tokens[at+1:], " "))
				}
			}
		}
	}
}

// P7.1, P7.2: all texts of up to two pieces, and what follows the beginning of a module, the shortest one, and a record.
func TestFewTokens(t *testing.T) {
	for _, a := range pieces {
		checkBySyntax(t, a)
		for _, b := range pieces {
			checkBySyntax(t, a+" "+b)
			checkBySyntax(t, "module { frame 1 ; "+a+" "+b)
			checkBySyntax(t, "module { frame 1 ; } "+a+" "+b)
			checkBySyntax(t, "window 1 { start 1 ; length 1 ; } "+a+" "+b)
		}
	}
}

// P7.2
func TestRecords(t *testing.T) {
	for _, s := range []string{"", " ", "\n", "# nothing", "\t#\n"} {
		checkRecords(t, s, api.Config{})
	}
	checkRecords(t, "window 1 { start 0; length 5; }", api.Config{Windows: []api.Window{{Length: 5, Partition: 1}}})
	checkRecords(t, allKinds, allKindsConfig())
	for _, s := range []string{"@module { frame 1; }", "@frame 1;", "@}", "@{", "@,", "@0", `@"a"`, "window 1 { start 0; length 5; } @}", "window 1 { start 0; length 5; }\n@frame 1;", "window 1 { start 0; length 5; } @module { frame 1; }"} {
		checkFault(t, Records, s, api.ErrToken)
	}
}

// P7.3
func TestRightsAndWords(t *testing.T) {
	for word, want := range rightsOf {
		if rights, ok := Rights(word); rights != want || !ok {
			t.Errorf("%s: got %d, %t", word, rights, ok)
		}
		if got := Word(want); got != word {
			t.Errorf("%d: got %q, want %q", want, got, word)
		}
	}
	for rights := 8; rights < 256; rights++ {
		if got := Word(uint8(rights)); got != "" {
			t.Errorf("%d: got %q", rights, got)
		}
	}
}

// P7.3: all strings of up to five of the letters, and others.
func TestRightsOfOtherWords(t *testing.T) {
	words := []string{"", "R", "RW", "None", "NONE", " r", "r ", "none ", "no", "nonex", "rwxnone", "shared", "0", "7", "read", "ŕ", "\x00", "\xff", "r\x00", strings.Repeat("r", 1<<16)}
	all := []string{""}
	for range 5 {
		for _, s := range all {
			for _, x := range []string{"r", "w", "x", "n", "o", "e"} {
				all = append(all, s+x)
			}
		}
		slices.Sort(all)
		all = slices.Compact(all)
	}
	for x := range 256 {
		words = append(words, string([]byte{byte(x)}))
	}
	for _, word := range append(words, all...) {
		want, is := rightsOf[word]
		if rights, ok := Rights(word); rights != want || ok != is {
			t.Errorf("%.20q: got %d, %t, want %d, %t", word, rights, ok, want, is)
		}
	}
}

// mustPart reports whether two tokens are other tokens without spacing between them.
func mustPart(a, b string) bool {
	letter := func(x byte) bool { return x >= 'a' && x <= 'z' }
	digit := func(x byte) bool { return x >= '0' && x <= '9' }
	return letter(b[0]) && (letter(a[0]) || digit(a[0])) || digit(b[0]) && digit(a[0])
}

// checkAlike expects the same of two texts, but for the place of a fault.
func checkAlike(t *testing.T, call func(string) (api.Config, api.Fault), a, b string) {
	t.Helper()
	first, firstFault := call(a)
	second, secondFault := call(b)
	if !conf.Same(first, second) || firstFault.Code != secondFault.Code {
		t.Errorf("%q: got %s, %v, want %s, %v", b, short(second), secondFault, short(first), firstFault)
	}
}

// P7.4
func TestSpacing(t *testing.T) {
	source := rand.New(rand.NewSource(74))
	spacings := []string{"", " ", "\n", "\t", "\r", "\r\n", "   ", "# a comment; }\n", "\n#\n"}
	for _, s := range []string{module(allKinds), allKinds} {
		for range 500 {
			other := ""
			before := "{"
			for _, token := range texts(s) {
				spacing := spacings[source.Intn(len(spacings))] + spacings[source.Intn(len(spacings))]
				if spacing == "" && mustPart(before, token) {
					spacing = " "
				}
				other += spacing + token
				before = token
			}
			checkBySyntax(t, other)
			checkAlike(t, Parse, s, other)
			checkAlike(t, Records, s, other)
		}
	}
	checkParse(t, `module{frame 1;partition 1"a"{period 2;duration 3;}channel 4{source 5;to 6,7;}}`, api.Config{Frame: 1, Partitions: []api.Partition{{ID: 1, Name: "a", Period: 2, Duration: 3}}, Channels: []api.Channel{{ID: 4, Source: 5, Dests: []uint16{6, 7}}}})
	checkParse(t, "module{frame1;window2{start3;length0x4;}}", api.Config{Frame: 1, Windows: []api.Window{{Start: 3, Length: 4, Partition: 2}}})
}

// P7.4
func TestWithinLimits(t *testing.T) {
	source := rand.New(rand.NewSource(740))
	for range 50 {
		s := ""
		for range source.Intn(1100) {
			kind := kinds[source.Intn(len(kinds))].record
			s += strings.Replace(kind, "to;", "to 1, 2, 3, 4, 5;", 1)
		}
		checkBySyntax(t, s)
		c, _ := Records(s)
		if fault := conf.Check(c); fault != (api.Fault{}) {
			t.Errorf("got %v", fault)
		}
	}
}

// P1
func TestArbitraryTexts(t *testing.T) {
	source := rand.New(rand.NewSource(1))
	for range 2000 {
		b := make([]byte, source.Intn(30))
		source.Read(b)
		checkBySyntax(t, string(b))
		checkBySyntax(t, module(string(b)))
	}
	for _, s := range []string{"{", "}", ";", "module", "module{", "window ", "1 ", `"a"`, "to 1,", "#\n"} {
		checkBySyntax(t, strings.Repeat(s, 1<<14))
	}
	checkBySyntax(t, strings.Repeat(";", api.MaxText))
}

// Rule 4: a result shares no memory with another one, nor one list with another.
func TestMemory(t *testing.T) {
	s := module(allKinds + strings.Repeat("channel 1 { source 1; to 1, 2, 3; }", 10))
	first, _ := Parse(s)
	want := conf.Clone(first)
	second, _ := Parse(s)
	for i := range second.Channels {
		dests := second.Channels[i].Dests
		dests = dests[:cap(dests)]
		for j := range dests {
			dests[j] = 99
		}
	}
	for i, channel := range second.Channels {
		for _, id := range channel.Dests {
			if id != 99 {
				t.Errorf("channel %d shares its destinations", i)
			}
		}
	}
	clear(second.Partitions[:cap(second.Partitions)])
	clear(second.Windows[:cap(second.Windows)])
	clear(second.Regions[:cap(second.Regions)])
	clear(second.Ports[:cap(second.Ports)])
	clear(second.Channels[:cap(second.Channels)])
	if !conf.Same(first, want) {
		t.Errorf("got %s, want %s", short(first), short(want))
	}
	checkParse(t, s, want)
}

// Rule 6
func TestConcurrentCalls(t *testing.T) {
	var group sync.WaitGroup
	for range 8 {
		group.Add(1)
		go func() {
			defer group.Done()
			for range 50 {
				checkParse(t, module(allKinds), withFrame(10, allKindsConfig()))
				checkRecords(t, allKinds, allKindsConfig())
				checkFault(t, Parse, module(allKinds+"@x"), api.ErrToken)
				checkFault(t, Records, "window @65536;", api.ErrNumber)
				if rights, ok := Rights("rx"); rights != 5 || !ok || Word(6) != "wx" {
					t.Errorf("got %d, %t", rights, ok)
				}
			}
		}()
	}
	group.Wait()
}
