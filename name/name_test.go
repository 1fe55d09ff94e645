package name

import (
	"math"
	"math/rand"
	"slices"
	"strings"
	"sync"
	"testing"

	"fenestra/api"
)

// printables are the bytes of the document's range, written out so that the tests do not repeat the program's comparison.
const printables = " !\"#$%&'()*+,-./0123456789:;<=>?@ABCDEFGHIJKLMNOPQRSTUVWXYZ[\\]^_`abcdefghijklmnopqrstuvwxyz{|}~"

func isPrintable(x byte) bool { return strings.IndexByte(printables, x) >= 0 }

// formOf is the quoted form by the letter of the document.
func formOf(name string) string {
	return `"` + strings.NewReplacer(`"`, `\"`, `\`, `\\`).Replace(name) + `"`
}

// words has all strings of up to n of the bytes.
func words(bytes string, n int) []string {
	all := []string{""}
	for first := 0; n > 0; n-- {
		end := len(all)
		for _, s := range all[first:end] {
			for _, x := range []byte(bytes) {
				all = append(all, s+string([]byte{x}))
			}
		}
		first = end
	}
	return all
}

// names are ordinary ones, those of one byte, the longest ones, and random ones; a fixed seed makes every run the same.
func names() []string {
	all := []string{"a", "flight control", "a\"b", `\`, `"`, `\\`, `""`, `\"`, `"\`, `a\`, " ", "  ", "#", "{};,", printables[:30], printables[30:60], printables[60:90], printables[65:], strings.Repeat(`"`, 30), strings.Repeat(`\`, 30), strings.Repeat(" ", 29)}
	for _, x := range []byte(printables) {
		all = append(all, string([]byte{x}))
	}
	source := rand.New(rand.NewSource(4))
	for range 300 {
		name := make([]byte, 1+source.Intn(30))
		for i := range name {
			name[i] = printables[source.Intn(len(printables))]
		}
		all = append(all, string(name))
	}
	return all
}

// others are strings that are no names.
func others() []string {
	all := []string{"", strings.Repeat("a", 31), strings.Repeat(`"`, 31), strings.Repeat("a", 1000), "ä", "a\u00a0b", "a\n", "\ta", strings.Repeat("\x00", 30), "a\x00"}
	for x := range 256 {
		if isPrintable(byte(x)) {
			continue
		}
		s := string([]byte{byte(x)})
		all = append(all, s, "a"+s, s+"a", "a"+s+"b", strings.Repeat("c", 29)+s)
	}
	return all
}

// P4.1
func TestValid(t *testing.T) {
	for _, s := range names() {
		if !Valid(s) {
			t.Errorf("%q: got false", s)
		}
	}
	for _, s := range others() {
		if Valid(s) {
			t.Errorf("%q: got true", s)
		}
	}
}

// P4.1
func TestValidOfEachLength(t *testing.T) {
	for n := range 100 {
		if got, want := Valid(strings.Repeat("n", n)), n >= 1 && n <= 30; got != want {
			t.Errorf("%d bytes: got %v", n, got)
		}
	}
}

// P4.1
func TestValidOfEachByte(t *testing.T) {
	for x := range 256 {
		want := x >= 32 && x <= 126
		for at := range 30 {
			s := []byte(strings.Repeat("n", 30))
			s[at] = byte(x)
			if got := Valid(string(s)); got != want {
				t.Errorf("byte %d at %d: got %v", x, at, got)
			}
		}
	}
}

// P4.1
func TestQuote(t *testing.T) {
	for s, want := range map[string]string{
		"a": `"a"`, `a"b`: `"a\"b"`, `"`: `"\""`, `\`: `"\\"`, `\"`: `"\\\""`, `"\`: `"\"\\"`, `a\n`: `"a\\n"`, " ": `" "`, "it's": `"it's"`,
		strings.Repeat(`"`, 30): `"` + strings.Repeat(`\"`, 30) + `"`,
	} {
		if got := Quote(s); got != want {
			t.Errorf("%q: got %s, want %s", s, got, want)
		}
	}
	if got := Quote(`a"b`); len(got) != 6 {
		t.Errorf("got %d bytes", len(got))
	}
	for _, s := range names() {
		if got := Quote(s); got != formOf(s) {
			t.Errorf("%q: got %s", s, got)
		}
	}
	for _, s := range others() {
		if got := Quote(s); got != "" {
			t.Errorf("%q: got %s", s, got)
		}
	}
}

// scanCase is a call of Scan with its results.
type scanCase struct {
	s    string
	at   int
	name string
	end  int
	code api.Code
}

func checkScans(t *testing.T, cases []scanCase) {
	t.Helper()
	for _, c := range cases {
		if name, end, code := Scan(c.s, c.at); name != c.name || end != c.end || code != c.code {
			t.Errorf("%q at %d: got %q, %d, %d, want %q, %d, %d", c.s, c.at, name, end, code, c.name, c.end, c.code)
		}
	}
}

// P4.2
func TestScan(t *testing.T) {
	checkScans(t, []scanCase{
		{`"a"`, 0, "a", 3, api.OK},
		{`"a\"b"`, 0, `a"b`, 6, api.OK},
		{`"\""`, 0, `"`, 4, api.OK},
		{`"\\"`, 0, `\`, 4, api.OK},
		{`"\\"x"`, 0, `\`, 4, api.OK},
		{`"\\\""`, 0, `\"`, 6, api.OK},
		{`"a""b"`, 0, "a", 3, api.OK},
		{`"a""b"`, 2, "", 0, api.ErrName},
		{`"a""b"`, 3, "b", 6, api.OK},
		{`"ab" "`, 0, "ab", 4, api.OK},
		{`port 1 "out"{`, 7, "out", 12, api.OK},
		{`\"a"`, 1, "a", 4, api.OK},
		{"\"a\"\x00\xff", 0, "a", 3, api.OK},
		{`" "`, 0, " ", 3, api.OK},
	})
}

// P4.2
func TestScanWhereNoFormBegins(t *testing.T) {
	checkScans(t, []scanCase{
		{"", 0, "", 0, api.ErrChar},
		{`"a"`, 1, "", 0, api.ErrChar},
		{`"a"`, 3, "", 0, api.ErrChar},
		{`"a"`, 4, "", 0, api.ErrChar},
		{`"a"`, -1, "", 0, api.ErrChar},
		{`"a"`, math.MaxInt, "", 0, api.ErrChar},
		{`"a"`, math.MinInt, "", 0, api.ErrChar},
		{`"a"`, 1 << 32, "", 0, api.ErrChar},
		{`\"a"`, 0, "", 0, api.ErrChar},
		{`'a'`, 0, "", 0, api.ErrChar},
		{"“a”", 0, "", 0, api.ErrChar},
		{` "a"`, 0, "", 0, api.ErrChar},
	})
}

// P4.2
func TestScanOfNoForm(t *testing.T) {
	checkScans(t, []scanCase{
		{`"`, 0, "", 0, api.ErrName},
		{`""`, 0, "", 0, api.ErrName},
		{`"""`, 0, "", 0, api.ErrName},
		{`"a`, 0, "", 0, api.ErrName},
		{`"a"`, 2, "", 0, api.ErrName},
		{`"\`, 0, "", 0, api.ErrName},
		{`"\"`, 0, "", 0, api.ErrName},
		{`"a\"`, 0, "", 0, api.ErrName},
		{`"a\\\"`, 0, "", 0, api.ErrName},
		{`"\a"`, 0, "", 0, api.ErrName},
		{`"a\n"`, 0, "", 0, api.ErrName},
		{"\"a\\\n\"", 0, "", 0, api.ErrName},
		{"\"a\nb\"", 0, "", 0, api.ErrName},
		{"\"a\x7f\"", 0, "", 0, api.ErrName},
		{"\"\x1f\"", 0, "", 0, api.ErrName},
		{"\"a\x00\"", 0, "", 0, api.ErrName},
		{`"ä"`, 0, "", 0, api.ErrName},
	})
}

// P4.2: no byte but the two has a backslash in front of it, and no byte that is not printable belongs to a form.
func TestScanOfEachByte(t *testing.T) {
	for x := range 256 {
		s := string([]byte{byte(x)})
		special := s == `"` || s == `\`
		plain := scanCase{s: `"a` + s + `b"`, code: api.ErrName}
		escaped := scanCase{s: `"a\` + s + `b"`, code: api.ErrName}
		switch {
		case s == `"`:
			plain.name, plain.end, plain.code = "a", 3, api.OK
		case isPrintable(byte(x)) && !special:
			plain.name, plain.end, plain.code = "a"+s+"b", 5, api.OK
		}
		if special {
			escaped.name, escaped.end, escaped.code = "a"+s+"b", 6, api.OK
		}
		checkScans(t, []scanCase{plain, escaped})
	}
}

// P4.2: the limit counts the bytes of the name, not those of the form.
func TestScanOfLongNames(t *testing.T) {
	for _, x := range []string{"a", `"`, `\`, " "} {
		for n := 1; n < 64; n++ {
			want := scanCase{s: formOf(strings.Repeat(x, n)), code: api.ErrName}
			if n <= 30 {
				want.name, want.end, want.code = strings.Repeat(x, n), len(want.s), api.OK
			}
			open := scanCase{s: strings.TrimSuffix(want.s, `"`), code: api.ErrName}
			checkScans(t, []scanCase{want, open})
		}
	}
	checkScans(t, []scanCase{
		{`"` + strings.Repeat("a", 30) + `\"`, 0, "", 0, api.ErrName},
		{`"` + strings.Repeat("a", 29) + `\""`, 0, strings.Repeat("a", 29) + `"`, 33, api.OK},
		{`"` + strings.Repeat("a", 1<<20), 0, "", 0, api.ErrName},
		{strings.Repeat("a", 1<<20) + `"b"`, 1 << 20, "b", 1<<20 + 3, api.OK},
	})
}

// P4.2: all short strings of the bytes that matter, compared with a list of all forms that may begin in them.
func TestScanOfAllShortStrings(t *testing.T) {
	nameOf := map[string]string{}
	for _, name := range words(`"\a`, 5)[1:] {
		nameOf[formOf(name)] = name
	}
	for _, s := range words("\"\\a\n", 7) {
		for at := range len(s) + 1 {
			want := scanCase{s: s, at: at, code: api.ErrName}
			if !strings.HasPrefix(s[at:], `"`) {
				want.code = api.ErrChar
			}
			for end := at; end <= len(s); end++ {
				if name, ok := nameOf[s[at:end]]; ok {
					want.name, want.end, want.code = name, end, api.OK
				}
			}
			checkScans(t, []scanCase{want})
		}
	}
}

// padded is what Pad returns for a name, by the letter of the document.
func padded(name string) [api.MaxName]byte {
	return [api.MaxName]byte([]byte(name + strings.Repeat("\x00", api.MaxName-len(name))))
}

// P4.3
func TestPad(t *testing.T) {
	if got, want := Pad("ab"), [30]byte{'a', 'b'}; got != want {
		t.Errorf("got %v", got)
	}
	for _, s := range names() {
		if got := Pad(s); got != padded(s) {
			t.Errorf("%q: got %v", s, got)
		}
	}
	for _, s := range others() {
		if got := Pad(s); got != [30]byte{} {
			t.Errorf("%q: got %v", s, got)
		}
	}
}

func checkUnpad(t *testing.T, b [api.MaxName]byte, n int, want string, wantOK bool) {
	t.Helper()
	if got, ok := Unpad(b, n); got != want || ok != wantOK {
		t.Errorf("%q, %d: got %q, %v, want %q, %v", b, n, got, ok, want, wantOK)
	}
}

// P4.3: of all numbers, only the length of the name is right, as a zero byte is neither part of a name nor missing behind it.
func TestUnpadOfEachNumber(t *testing.T) {
	numbers := []int{math.MinInt, math.MinInt + 1, -1 << 32, 1 << 32, 1<<32 + 1, math.MaxInt - 1, math.MaxInt}
	for n := -35; n < 70; n++ {
		numbers = append(numbers, n)
	}
	for _, s := range names() {
		for _, n := range numbers {
			if n == len(s) {
				checkUnpad(t, padded(s), n, s, true)
			} else {
				checkUnpad(t, padded(s), n, "", false)
			}
			checkUnpad(t, [30]byte{}, n, "", false)
		}
	}
}

// P4.3: each byte behind the name must be 0, and each byte of it printable.
func TestUnpadOfEachByte(t *testing.T) {
	for x := range 256 {
		for n := 1; n <= 30; n++ {
			for at := range 30 {
				b := padded(strings.Repeat("n", n))
				b[at] = byte(x)
				if at < n && isPrintable(byte(x)) || at >= n && x == 0 {
					checkUnpad(t, b, n, string(b[:n]), true)
				} else {
					checkUnpad(t, b, n, "", false)
				}
			}
		}
	}
}

// P4.4
func TestSort(t *testing.T) {
	for _, c := range []struct{ l, want []string }{
		{nil, nil},
		{[]string{}, nil},
		{[]string{"a"}, []string{"a"}},
		{[]string{"b", "a"}, []string{"a", "b"}},
		{[]string{"a", "a", "a"}, []string{"a"}},
		{[]string{"b", "a", "b", "c", "a"}, []string{"a", "b", "c"}},
		{[]string{"b", "ab", "", "a", "abc", "B", ""}, []string{"", "B", "a", "ab", "abc", "b"}},
		{[]string{"10", "9", "1"}, []string{"1", "10", "9"}},
		{[]string{"\xff", "ä", "z", "\x00", "", "a\x00", "a"}, []string{"", "\x00", "a", "a\x00", "z", "ä", "\xff"}},
		{[]string{strings.Repeat("a", 31), strings.Repeat("a", 30)}, []string{strings.Repeat("a", 30), strings.Repeat("a", 31)}},
	} {
		if got := Sort(c.l...); !slices.Equal(got, c.want) {
			t.Errorf("%q: got %q, want %q", c.l, got, c.want)
		}
	}
}

// P4.4: each string of the argument occurs in the result, which is strictly ascending and has no others.
func TestSortOfRandomStrings(t *testing.T) {
	source := rand.New(rand.NewSource(5))
	for range 200 {
		all := words("ab\xff", 4)
		l := make([]string, source.Intn(100))
		wanted := map[string]bool{}
		for i := range l {
			l[i] = all[source.Intn(len(all))]
			wanted[l[i]] = true
		}
		got := Sort(l...)
		for i, s := range got {
			if !wanted[s] || i > 0 && got[i-1] >= s {
				t.Errorf("%q: got %q", l, got)
			}
		}
		if len(got) != len(wanted) {
			t.Errorf("%q: got %d strings, want %d", l, len(got), len(wanted))
		}
	}
}

// Rule 4
func TestSortSharesNoMemory(t *testing.T) {
	full := []string{"c", "a", "c", "b", "z", "y"}
	before := slices.Clone(full)
	one, two := Sort(full[:4]...), Sort(full[:4]...)
	if !slices.Equal(full, before) {
		t.Errorf("the argument was changed to %q", full)
	}
	clear(one)
	_ = append(one, "x", "x", "x")
	if !slices.Equal(full, before) || !slices.Equal(two, []string{"a", "b", "c"}) {
		t.Errorf("a change of a result changed %q, %q", full, two)
	}
	sorted := []string{"a", "b"}
	clear(Sort(sorted...))
	if !slices.Equal(sorted, []string{"a", "b"}) {
		t.Errorf("a change of a result changed %q", sorted)
	}
}

// P4.5
func TestScanInvertsQuote(t *testing.T) {
	for _, s := range names() {
		for _, before := range []string{"", "x", `"`, `\`, "\xff\n"} {
			for _, after := range []string{"", "x", `"`, `\`, `\"`, " ;", "\x00", "\xff", `"x"`, strings.Repeat("x", 40)} {
				form := Quote(s)
				checkScans(t, []scanCase{{before + form + after, len(before), s, len(before) + len(form), api.OK}})
			}
		}
	}
}

// P4.5: what Scan takes is the quoted form of its result, so Quote inverts it, too.
func TestQuoteInvertsScan(t *testing.T) {
	for _, s := range words("\"\\a ", 7) {
		for at := range len(s) {
			if name, end, code := Scan(s, at); code == api.OK && Quote(name) != s[at:end] {
				t.Errorf("%q at %d: got %q up to %d", s, at, name, end)
			}
		}
	}
}

// P4.5
func TestUnpadInvertsPad(t *testing.T) {
	for _, s := range names() {
		checkUnpad(t, Pad(s), len(s), s, true)
	}
}

// Rule 6: the functions may be called at the same time.
func TestConcurrentCalls(t *testing.T) {
	all := names()
	results := make([]int, 16)
	var group sync.WaitGroup
	for i := range results {
		group.Go(func() {
			for _, s := range all {
				name, _, _ := Scan(Quote(s), 0)
				again, _ := Unpad(Pad(s), len(s))
				if name == s && again == s {
					results[i]++
				}
			}
			results[i] += len(Sort(all...))
		})
	}
	group.Wait()
	for i, got := range results {
		if want := len(all) + len(Sort(all...)); got != want {
			t.Errorf("goroutine %d: got %d, want %d", i, got, want)
		}
	}
}
