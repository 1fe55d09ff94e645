package lex

import (
	"fmt"
	"math"
	"math/big"
	"math/rand"
	"regexp"
	"slices"
	"strings"
	"sync"
	"testing"

	"fenestra/api"
)

// The forms of the document as regular expressions, so that the tests do not repeat the program's comparisons.
var (
	spacingForm = regexp.MustCompile(`^(?:[ \t\r\n]|#[^\n]*)*`)
	wordForm    = regexp.MustCompile(`^[a-z]+`)
	numberForm  = regexp.MustCompile(`^[0-9][0-9a-z]*`)
	nameForm    = regexp.MustCompile(`^"(?:[ !#-\[\]-~]|\\["\\]){1,30}"`)
	signForm    = regexp.MustCompile(`^[{};,]`)
	decimalForm = regexp.MustCompile(`^(?:0|[1-9][0-9]*)$`)
	hexForm     = regexp.MustCompile(`^0x(?:0|[1-9a-f][0-9a-f]*)$`)
)

// placeOf is the place of an offset of the text by the letter of the document.
func placeOf(s string, at int) (int, int) {
	before := s[:at]
	return 1 + strings.Count(before, "\n"), len(before) - strings.LastIndex(before, "\n")
}

// valueOf is the number that a string denotes, and whether it denotes one of 64 bits.
func valueOf(s string) (uint64, bool) {
	x := new(big.Int)
	switch {
	case decimalForm.MatchString(s):
		x.SetString(s, 10)
	case hexForm.MatchString(s):
		x.SetString(strings.TrimPrefix(s, "0x"), 16)
	default:
		return 0, false
	}
	return x.Uint64(), x.IsUint64()
}

// nextOf is what Next returns for an offset of the text, by the letter of the document.
func nextOf(s string, at int) (Token, int, api.Fault) {
	at += len(spacingForm.FindString(s[at:]))
	line, col := placeOf(s, at)
	token := Token{Line: line, Col: col}
	if at == len(s) {
		return token, at, api.Fault{}
	}
	form := ""
	fault := api.Fault{Code: api.ErrChar, Part: line, At: col}
	rest := s[at:]
	switch {
	case wordForm.MatchString(rest):
		form = wordForm.FindString(rest)
		token.Kind, token.Text = Word, form
	case numberForm.MatchString(rest):
		form = numberForm.FindString(rest)
		value, ok := valueOf(form)
		if !ok {
			fault.Code = api.ErrNumber
			return Token{}, 0, fault
		}
		token.Kind, token.Text, token.Value = Number, form, value
	case nameForm.MatchString(rest):
		form = nameForm.FindString(rest)
		token.Kind, token.Text = Name, strings.NewReplacer(`\"`, `"`, `\\`, `\`).Replace(form[1:len(form)-1])
	case signForm.MatchString(rest):
		form = signForm.FindString(rest)
		token.Kind, token.Text = Sign, form
	default:
		if strings.HasPrefix(rest, `"`) {
			fault.Code = api.ErrName
		}
		return Token{}, 0, fault
	}
	return token, at + len(form), api.Fault{}
}

// tokensOf is what Tokens returns for a text that is not too long, by the letter of the document.
func tokensOf(s string) ([]Token, api.Fault) {
	var l []Token
	for at := 0; ; {
		token, end, fault := nextOf(s, at)
		if fault != (api.Fault{}) {
			return nil, fault
		}
		l = append(l, token)
		if token.Kind == End {
			return l, api.Fault{}
		}
		at = end
	}
}

// short is the beginning of what a message says of x, since some texts have 2^20 bytes.
func short(x any) string { return fmt.Sprintf("%.200s", fmt.Sprint(x)) }

func checkNext(t *testing.T, s string, at int, want Token, wantEnd int, wantFault api.Fault) {
	t.Helper()
	line, col := placeOf(s, at)
	if token, end, fault := Next(s, at, line, col); token != want || end != wantEnd || fault != wantFault {
		t.Errorf("%.80q at %d: got %s, %d, %v, want %s, %d, %v", s, at, short(token), end, fault, short(want), wantEnd, wantFault)
	}
}

// checkAllOffsets compares Next with the document at each offset of a text, also at those amid tokens.
func checkAllOffsets(t *testing.T, s string) {
	t.Helper()
	for at := range len(s) + 1 {
		want, end, fault := nextOf(s, at)
		checkNext(t, s, at, want, end, fault)
	}
}

func checkTokens(t *testing.T, s string, want []Token, wantFault api.Fault) {
	t.Helper()
	if got, fault := Tokens(s); !slices.Equal(got, want) || fault != wantFault {
		t.Errorf("%.80q: got %d tokens %s, %v, want %d tokens %s, %v", s, len(got), short(got), fault, len(want), short(want), wantFault)
	}
}

// shortTexts has all texts of up to n of the pieces.
func shortTexts(n int, pieces ...string) []string {
	all := []string{""}
	for first := 0; n > 0; n-- {
		end := len(all)
		for _, s := range all[first:end] {
			for _, x := range pieces {
				all = append(all, s+x)
			}
		}
		first = end
	}
	return all
}

// randomTexts are made of pieces of all kinds, most of them without a fault; a fixed seed makes every run the same.
func randomTexts(n int) []string {
	right := []string{"module", "a", "z", "frame", "x", "0", "1", "9", "10", "0x10", "0xff", "0x0", "18446744073709551615", "0xffffffffffffffff", `"a"`, `"a\"b"`, `"\\"`, `" # "`, `"{};,"`, "{", "}", ";", ",", " ", "  ", "\t", "\r", "\n", "\r\n", "# a comment\n", "#\n", "##\"\n", "#\r\n", "# \xff\x00\n", "#"}
	wrong := []string{"A", "_", "-", "'", "\"", "\\", "00", "0x", "18446744073709551616", `""`, "\x00", "\x7f", "\xff", "ä"}
	source := rand.New(rand.NewSource(6))
	all := make([]string, n)
	for i := range all {
		for range source.Intn(40) {
			piece := right[source.Intn(len(right))]
			if source.Intn(60) == 0 {
				piece = wrong[source.Intn(len(wrong))]
			}
			// A space keeps pieces apart that would often be one wrong number.
			if source.Intn(2) == 0 {
				piece += " "
			}
			all[i] += piece
		}
	}
	return all
}

// P6.1
func TestPlace(t *testing.T) {
	s := "ab\n\n\tc\r\nä\n"
	want := [][2]int{{1, 1}, {1, 2}, {1, 3}, {2, 1}, {3, 1}, {3, 2}, {3, 3}, {3, 4}, {4, 1}, {4, 2}, {4, 3}, {5, 1}}
	for at, place := range want {
		if line, col := Place(s, at); line != place[0] || col != place[1] {
			t.Errorf("%d: got %d, %d, want %v", at, line, col, place)
		}
	}
	if len(want) != len(s)+1 {
		t.Errorf("%d places for %d bytes", len(want), len(s))
	}
}

// P6.1
func TestPlaceOfEachOffset(t *testing.T) {
	texts := append(shortTexts(6, "\n", "a", "\r"), randomTexts(200)...)
	for x := range 256 {
		texts = append(texts, "a"+string([]byte{byte(x)})+"b")
	}
	for _, s := range texts {
		for at := range len(s) + 1 {
			wantLine, wantCol := placeOf(s, at)
			if line, col := Place(s, at); line != wantLine || col != wantCol {
				t.Errorf("%q at %d: got %d, %d, want %d, %d", s, at, line, col, wantLine, wantCol)
			}
		}
	}
}

// P6.1
func TestPlaceOfOtherOffsets(t *testing.T) {
	for _, s := range []string{"", "a", "\n", "a\nb\n"} {
		for _, at := range []int{math.MinInt, math.MinInt + 1, -1 << 32, -2, -1, len(s) + 1, len(s) + 2, 1 << 32, math.MaxInt - 1, math.MaxInt} {
			if line, col := Place(s, at); line != 0 || col != 0 {
				t.Errorf("%q at %d: got %d, %d", s, at, line, col)
			}
		}
	}
}

// P6.1: a text may be longer than Tokens permits.
func TestPlaceInLongTexts(t *testing.T) {
	s := strings.Repeat("a", api.MaxText) + "\n" + strings.Repeat("\n", api.MaxText)
	for at, want := range map[int][2]int{api.MaxText: {1, api.MaxText + 1}, api.MaxText + 1: {2, 1}, len(s): {api.MaxText + 2, 1}} {
		if line, col := Place(s, at); line != want[0] || col != want[1] {
			t.Errorf("%d: got %d, %d, want %v", at, line, col, want)
		}
	}
}

// nextCase is a call of Next that returns a token; the rest of the text follows its end.
type nextCase struct {
	s    string
	at   int
	want Token
	end  int
}

// P6.2
func TestNext(t *testing.T) {
	for _, c := range []nextCase{
		{"frame 0x10;", 0, Token{Kind: Word, Text: "frame", Line: 1, Col: 1}, 5},
		{"frame 0x10;", 2, Token{Kind: Word, Text: "ame", Line: 1, Col: 3}, 5},
		{"frame 0x10;", 5, Token{Kind: Number, Text: "0x10", Value: 16, Line: 1, Col: 7}, 10},
		{"frame 0x10;", 6, Token{Kind: Number, Text: "0x10", Value: 16, Line: 1, Col: 7}, 10},
		{"frame 0x10;", 7, Token{Kind: Word, Text: "x", Line: 1, Col: 8}, 8},
		{"frame 0x10;", 8, Token{Kind: Number, Text: "10", Value: 10, Line: 1, Col: 9}, 10},
		{"frame 0x10;", 10, Token{Kind: Sign, Text: ";", Line: 1, Col: 11}, 11},
		{"frame 0x10;", 11, Token{Kind: End, Line: 1, Col: 12}, 11},
		{"az09", 0, Token{Kind: Word, Text: "az", Line: 1, Col: 1}, 2},
		{"az9{", 2, Token{Kind: Number, Text: "9", Value: 9, Line: 1, Col: 3}, 3},
		{"0;", 0, Token{Kind: Number, Text: "0", Line: 1, Col: 1}, 1},
		{"0X1", 0, Token{Kind: Number, Text: "0", Line: 1, Col: 1}, 1},
		{"12\"a\"", 0, Token{Kind: Number, Text: "12", Value: 12, Line: 1, Col: 1}, 2},
		{"18446744073709551615", 0, Token{Kind: Number, Text: "18446744073709551615", Value: math.MaxUint64, Line: 1, Col: 1}, 20},
		{"0xffffffffffffffff}", 0, Token{Kind: Number, Text: "0xffffffffffffffff", Value: math.MaxUint64, Line: 1, Col: 1}, 18},
		{`x "a\"b" y`, 1, Token{Kind: Name, Text: `a"b`, Line: 1, Col: 3}, 8},
		{`"#"#`, 0, Token{Kind: Name, Text: "#", Line: 1, Col: 1}, 3},
		{`"a"b"`, 0, Token{Kind: Name, Text: "a", Line: 1, Col: 1}, 3},
		{"{{", 0, Token{Kind: Sign, Text: "{", Line: 1, Col: 1}, 1},
		{"};", 0, Token{Kind: Sign, Text: "}", Line: 1, Col: 1}, 1},
		{",a", 0, Token{Kind: Sign, Text: ",", Line: 1, Col: 1}, 1},
		{"", 0, Token{Kind: End, Line: 1, Col: 1}, 0},
		{"a", 1, Token{Kind: End, Line: 1, Col: 2}, 1},
	} {
		checkNext(t, c.s, c.at, c.want, c.end, api.Fault{})
	}
}

// P6.2
func TestNextSkipsSpacing(t *testing.T) {
	for _, c := range []nextCase{
		{" \t\r\n a", 0, Token{Kind: Word, Text: "a", Line: 2, Col: 2}, 6},
		{"a\n\n\n  b", 1, Token{Kind: Word, Text: "b", Line: 4, Col: 3}, 7},
		{"a\r\rb", 1, Token{Kind: Word, Text: "b", Line: 1, Col: 4}, 4},
		{"\n", 0, Token{Kind: End, Line: 2, Col: 1}, 1},
		{"  ", 1, Token{Kind: End, Line: 1, Col: 3}, 2},
		{"#", 0, Token{Kind: End, Line: 1, Col: 2}, 1},
		{"#\n", 0, Token{Kind: End, Line: 2, Col: 1}, 2},
		{"# a;\nb", 0, Token{Kind: Word, Text: "b", Line: 2, Col: 1}, 6},
		{"# a;\nb", 1, Token{Kind: Word, Text: "a", Line: 1, Col: 3}, 3},
		{"# a\rb", 0, Token{Kind: End, Line: 1, Col: 6}, 5},
		{"# #\n#\n ##\" \xff\n;", 0, Token{Kind: Sign, Text: ";", Line: 4, Col: 1}, 14},
		{"a# b", 0, Token{Kind: Word, Text: "a", Line: 1, Col: 1}, 1},
		{"a# b", 1, Token{Kind: End, Line: 1, Col: 5}, 4},
	} {
		checkNext(t, c.s, c.at, c.want, c.end, api.Fault{})
	}
}

// P6.2
func TestNextOfNoToken(t *testing.T) {
	for _, c := range []struct {
		s    string
		at   int
		want api.Fault
	}{
		{"A", 0, api.Fault{Code: api.ErrChar, Part: 1, At: 1}},
		{"a \n\t_", 1, api.Fault{Code: api.ErrChar, Part: 2, At: 2}},
		{"aB", 1, api.Fault{Code: api.ErrChar, Part: 1, At: 2}},
		{"-1", 0, api.Fault{Code: api.ErrChar, Part: 1, At: 1}},
		{"'a'", 0, api.Fault{Code: api.ErrChar, Part: 1, At: 1}},
		{`\"a"`, 0, api.Fault{Code: api.ErrChar, Part: 1, At: 1}},
		{" \v", 0, api.Fault{Code: api.ErrChar, Part: 1, At: 2}},
		{"\u00a0", 0, api.Fault{Code: api.ErrChar, Part: 1, At: 1}},
		{"00", 0, api.Fault{Code: api.ErrNumber, Part: 1, At: 1}},
		{"# 0\n 01", 0, api.Fault{Code: api.ErrNumber, Part: 2, At: 2}},
		{"0x", 0, api.Fault{Code: api.ErrNumber, Part: 1, At: 1}},
		{"0xF", 0, api.Fault{Code: api.ErrNumber, Part: 1, At: 1}},
		{"0x01", 0, api.Fault{Code: api.ErrNumber, Part: 1, At: 1}},
		{"0xg", 0, api.Fault{Code: api.ErrNumber, Part: 1, At: 1}},
		{"az9a", 2, api.Fault{Code: api.ErrNumber, Part: 1, At: 3}},
		{"10a", 0, api.Fault{Code: api.ErrNumber, Part: 1, At: 1}},
		{"1x", 0, api.Fault{Code: api.ErrNumber, Part: 1, At: 1}},
		{"18446744073709551616", 0, api.Fault{Code: api.ErrNumber, Part: 1, At: 1}},
		{"0x10000000000000000", 0, api.Fault{Code: api.ErrNumber, Part: 1, At: 1}},
		{strings.Repeat("9", 1000), 0, api.Fault{Code: api.ErrNumber, Part: 1, At: 1}},
		{`"`, 0, api.Fault{Code: api.ErrName, Part: 1, At: 1}},
		{`""`, 0, api.Fault{Code: api.ErrName, Part: 1, At: 1}},
		{"\n\n  \"a", 0, api.Fault{Code: api.ErrName, Part: 3, At: 3}},
		{"\"a\nb\"", 0, api.Fault{Code: api.ErrName, Part: 1, At: 1}},
		{`"\n"`, 0, api.Fault{Code: api.ErrName, Part: 1, At: 1}},
		{`"a\"`, 0, api.Fault{Code: api.ErrName, Part: 1, At: 1}},
		{`"ä"`, 0, api.Fault{Code: api.ErrName, Part: 1, At: 1}},
		{`"` + strings.Repeat("a", 31) + `"`, 0, api.Fault{Code: api.ErrName, Part: 1, At: 1}},
	} {
		checkNext(t, c.s, c.at, Token{}, 0, c.want)
	}
}

// P6.2: each byte in front of a token, inside one, behind one, and in a comment.
func TestNextOfEachByte(t *testing.T) {
	for x := range 256 {
		s := string([]byte{byte(x)})
		for _, text := range []string{s, s + "a", "a" + s + "a", "1" + s + "1", "0x1" + s, `"a` + s + `b"`, `"a\` + s + `"`, `"a"` + s, "{" + s + "}", " " + s, "\n" + s, "#" + s + "a\nb", "#a" + s + "b"} {
			checkAllOffsets(t, text)
		}
	}
}

// P6.2
func TestNextInShortTexts(t *testing.T) {
	for _, s := range shortTexts(5, "a", "0", "x", "9", `"`, `\`, " ", "#", "\n", "{") {
		checkAllOffsets(t, s)
	}
}

// P6.2
func TestNextInRandomTexts(t *testing.T) {
	for _, s := range randomTexts(500) {
		checkAllOffsets(t, s)
	}
}

// P6.2: the limit of a name counts its bytes, not those of its form.
func TestNextOfLongNames(t *testing.T) {
	for _, x := range []string{"a", `\"`, `\\`, " "} {
		for n := range 40 {
			checkAllOffsets(t, `"`+strings.Repeat(x, n)+`" b`)
		}
	}
}

// P6.2: Next has no limit of the length.
func TestNextInLongTexts(t *testing.T) {
	word := strings.Repeat("w", api.MaxText+1)
	checkNext(t, word, 0, Token{Kind: Word, Text: word, Line: 1, Col: 1}, len(word), api.Fault{})
	spacing := strings.Repeat(" ", api.MaxText+1)
	checkNext(t, spacing+"5", 0, Token{Kind: Number, Text: "5", Value: 5, Line: 1, Col: api.MaxText + 2}, api.MaxText+2, api.Fault{})
}

// P1: offsets for which the document does not specify Next.
func TestNextOfOtherOffsets(t *testing.T) {
	extremes := []int{math.MinInt, -1, 0, 1, math.MaxInt}
	for _, s := range []string{"", "a", "\n\n1", "A", "\"\n"} {
		for _, at := range []int{math.MinInt, -1, len(s) + 1, math.MaxInt} {
			for _, x := range extremes {
				if token, end, fault := Next(s, at, x, x); token != (Token{}) || end != 0 || fault.Code == api.OK {
					t.Errorf("%q at %d: got %v, %d, %v", s, at, token, end, fault)
				}
			}
		}
		for at := range len(s) + 1 {
			for _, x := range extremes {
				Next(s, at, x, x)
			}
		}
	}
}

// P6.3
func TestTokens(t *testing.T) {
	checkTokens(t, "frame 0x10;", []Token{
		{Kind: Word, Text: "frame", Line: 1, Col: 1},
		{Kind: Number, Text: "0x10", Value: 16, Line: 1, Col: 7},
		{Kind: Sign, Text: ";", Line: 1, Col: 11},
		{Kind: End, Line: 1, Col: 12},
	}, api.Fault{})
	checkTokens(t, "port 7 \"a\\\\\" {# to }\n\tto 1,22;}\n", []Token{
		{Kind: Word, Text: "port", Line: 1, Col: 1},
		{Kind: Number, Text: "7", Value: 7, Line: 1, Col: 6},
		{Kind: Name, Text: `a\`, Line: 1, Col: 8},
		{Kind: Sign, Text: "{", Line: 1, Col: 14},
		{Kind: Word, Text: "to", Line: 2, Col: 2},
		{Kind: Number, Text: "1", Value: 1, Line: 2, Col: 5},
		{Kind: Sign, Text: ",", Line: 2, Col: 6},
		{Kind: Number, Text: "22", Value: 22, Line: 2, Col: 7},
		{Kind: Sign, Text: ";", Line: 2, Col: 9},
		{Kind: Sign, Text: "}", Line: 2, Col: 10},
		{Kind: End, Line: 3, Col: 1},
	}, api.Fault{})
	checkTokens(t, `a"b""c"`, []Token{
		{Kind: Word, Text: "a", Line: 1, Col: 1},
		{Kind: Name, Text: "b", Line: 1, Col: 2},
		{Kind: Name, Text: "c", Line: 1, Col: 5},
		{Kind: End, Line: 1, Col: 8},
	}, api.Fault{})
}

// P6.3
func TestTokensOfSpacing(t *testing.T) {
	for s, want := range map[string]Token{
		"":             {Line: 1, Col: 1},
		" ":            {Line: 1, Col: 2},
		"\r\n\t":       {Line: 2, Col: 2},
		"# only":       {Line: 1, Col: 7},
		"# only\n":     {Line: 2, Col: 1},
		"#\n#\n #\n#;": {Line: 4, Col: 3},
	} {
		checkTokens(t, s, []Token{want}, api.Fault{})
	}
}

// P6.3
func TestTokensWithAFault(t *testing.T) {
	for s, want := range map[string]api.Fault{
		"frame 10;\n A":   {Code: api.ErrChar, Part: 2, At: 2},
		"a 01 \"\" _":     {Code: api.ErrNumber, Part: 1, At: 3},
		"a \"\" 01 _":     {Code: api.ErrName, Part: 1, At: 3},
		"a _ 01 \"\"":     {Code: api.ErrChar, Part: 1, At: 3},
		"0xAB":            {Code: api.ErrNumber, Part: 1, At: 1},
		"0XAB":            {Code: api.ErrChar, Part: 1, At: 2},
		"{};,\n\n.":       {Code: api.ErrChar, Part: 3, At: 1},
		"\x00":            {Code: api.ErrChar, Part: 1, At: 1},
		"# A\na # \"\nä":  {Code: api.ErrChar, Part: 3, At: 1},
		"\"a\" \"b\n\" ;": {Code: api.ErrName, Part: 1, At: 5},
	} {
		checkTokens(t, s, nil, want)
	}
}

// P6.3
func TestTokensOfShortTexts(t *testing.T) {
	texts := shortTexts(4, "a", "0", "x", "1", `"`, `\`, " ", "#", "\n", ";", "\r", "A", "\xff")
	for _, s := range append(texts, randomTexts(3000)...) {
		want, fault := tokensOf(s)
		checkTokens(t, s, want, fault)
	}
}

// P6.3: Tokens returns what Next returns one by one.
func TestTokensAreThoseOfNext(t *testing.T) {
	for _, s := range randomTexts(500) {
		l, _ := Tokens(s)
		at := 0
		for _, want := range l {
			line, col := Place(s, at)
			token, end, fault := Next(s, at, line, col)
			if token != want || fault != (api.Fault{}) {
				t.Errorf("%q at %d: got %v, %v, want %v", s, at, token, fault, want)
			}
			at = end
		}
	}
}

// P6.3: a text of 2^20 bytes is the longest one.
func TestTokensOfTheLongestTexts(t *testing.T) {
	signs, fault := Tokens(strings.Repeat(";\n", api.MaxText/2))
	if len(signs) != api.MaxText/2+1 || fault != (api.Fault{}) {
		t.Errorf("signs: got %d tokens, %v", len(signs), fault)
	}
	for i, token := range signs {
		want := Token{Kind: Sign, Text: ";", Line: i + 1, Col: 1}
		if i == api.MaxText/2 {
			want.Kind, want.Text = End, ""
		}
		if token != want {
			t.Fatalf("token %d: got %v", i, token)
		}
	}
	word := strings.Repeat("w", api.MaxText)
	checkTokens(t, word, []Token{{Kind: Word, Text: word, Line: 1, Col: 1}, {Kind: End, Line: 1, Col: api.MaxText + 1}}, api.Fault{})
	checkTokens(t, strings.Repeat("\n", api.MaxText), []Token{{Line: api.MaxText + 1, Col: 1}}, api.Fault{})
	checkTokens(t, strings.Repeat("#", api.MaxText), []Token{{Line: 1, Col: api.MaxText + 1}}, api.Fault{})
	checkTokens(t, strings.Repeat("1", api.MaxText), nil, api.Fault{Code: api.ErrNumber, Part: 1, At: 1})
	checkTokens(t, `"`+strings.Repeat("a", api.MaxText-1), nil, api.Fault{Code: api.ErrName, Part: 1, At: 1})
	checkTokens(t, strings.Repeat(" ", api.MaxText-1)+"A", nil, api.Fault{Code: api.ErrChar, Part: 1, At: api.MaxText})
}

// P6.3: the length of a text precedes its other faults.
func TestTokensOfLongTexts(t *testing.T) {
	for _, s := range []string{" ", ";", "a", "#", "\n", "1", "A", `"`} {
		for _, n := range []int{api.MaxText + 1, api.MaxText + 2, 3 * api.MaxText} {
			checkTokens(t, strings.Repeat(s, n), nil, api.Fault{Code: api.ErrLong})
		}
	}
}

// Rule 4
func TestTokensSharesNoMemory(t *testing.T) {
	one, _ := Tokens("a 1")
	two, _ := Tokens("a 1")
	clear(one)
	_ = append(one[:1], Token{Kind: Sign, Text: ";"})
	if want, _ := tokensOf("a 1"); !slices.Equal(two, want) {
		t.Errorf("a change of a result changed %v", two)
	}
}

func checkJoin(t *testing.T, l []Token, want string) {
	t.Helper()
	if got := Join(l...); got != want {
		t.Errorf("%v: got %q, want %q", l, got, want)
	}
}

// P6.4
func TestJoin(t *testing.T) {
	word := Token{Kind: Word, Text: "a", Line: 1, Col: 1}
	number := Token{Kind: Number, Text: "0x10", Value: 16, Line: 2, Col: 9}
	quoted := Token{Kind: Name, Text: `a"\b`, Line: 3, Col: 1}
	sign := Token{Kind: Sign, Text: "{", Line: 7, Col: 7}
	end := Token{Line: 8, Col: 1}
	checkJoin(t, nil, "")
	checkJoin(t, []Token{}, "")
	checkJoin(t, []Token{word}, "a")
	checkJoin(t, []Token{number}, "0x10")
	checkJoin(t, []Token{quoted}, `"a\"\\b"`)
	checkJoin(t, []Token{sign}, "{")
	checkJoin(t, []Token{end}, "")
	checkJoin(t, []Token{word, number, quoted, sign}, `a 0x10 "a\"\\b" {`)
	checkJoin(t, []Token{sign, sign, word, word}, "{ { a a")
	checkJoin(t, []Token{word, end}, "a ")
	checkJoin(t, []Token{end, word, end, end, sign}, " a   {")
}

// P6.4
func TestJoinOfTokens(t *testing.T) {
	for s, want := range map[string]string{
		"":                       "",
		"frame 0x10;":            "frame 0x10 ; ",
		"\tto 1,2;# two\n}":      "to 1 , 2 ; } ",
		`port 1"a b"{}`:          `port 1 "a b" { } `,
		"18446744073709551615\n": "18446744073709551615 ",
	} {
		l, _ := Tokens(s)
		checkJoin(t, l, want)
	}
}

// P6.4: a Word with the text of a Name has no quotation marks, and all names are quoted as they are in texts.
func TestJoinQuotesNamesOnly(t *testing.T) {
	for _, form := range []string{`"a"`, `"1"`, `"{"`, `"\""`, `"\\"`, `"#"`, `" "`, `"` + strings.Repeat(`\"`, 30) + `"`} {
		l, fault := Tokens(form)
		if len(l) != 2 || fault != (api.Fault{}) {
			t.Errorf("%q: got %v, %v", form, l, fault)
			continue
		}
		checkJoin(t, l[:1], form)
		checkJoin(t, []Token{l[0], l[0]}, form+" "+form)
	}
	checkJoin(t, []Token{{Kind: Word, Text: "a"}, {Kind: Name, Text: "a"}}, `a "a"`)
}

// Rule 4
func TestJoinKeepsItsArgument(t *testing.T) {
	l, _ := Tokens(`a "b" 1 ;`)
	before := slices.Clone(l)
	first := Join(l[:2]...)
	if !slices.Equal(l, before) || first != `a "b"` {
		t.Errorf("got %v and %q", l, first)
	}
}

// P1: Join takes tokens that no text has.
func TestJoinOfOtherTokens(t *testing.T) {
	for _, kind := range []int{math.MinInt, -1, End, Word, Number, Name, Sign, 5, math.MaxInt} {
		for _, text := range []string{"", "a", "\n", "\xff", strings.Repeat("x", 31)} {
			Join(Token{Kind: kind, Text: text, Line: -1, Col: -1}, Token{Kind: kind})
		}
	}
}

// content is a list of tokens without places.
func content(l []Token) []Token {
	all := slices.Clone(l)
	for i := range all {
		all[i].Line, all[i].Col = 0, 0
	}
	return all
}

// P6.5
func TestTokensInvertsJoin(t *testing.T) {
	for _, s := range append(randomTexts(2000), shortTexts(5, "a", "1", `"`, `\`, " ", "#", "\n", ";")...) {
		l, fault := Tokens(s)
		if fault != (api.Fault{}) {
			continue
		}
		joined := Join(l...)
		again, fault := Tokens(joined)
		if !slices.Equal(content(again), content(l)) || fault != (api.Fault{}) {
			t.Errorf("%q joined as %q: got %v, %v", s, joined, again, fault)
		}
	}
}

// P6.5: the tokens may stand in any order, and be those of several texts; only End is the last one.
func TestTokensInvertsJoinInAnyOrder(t *testing.T) {
	var all []Token
	for _, s := range randomTexts(1000) {
		if l, fault := Tokens(s); fault == (api.Fault{}) {
			all = append(all, l[:len(l)-1]...)
		}
	}
	if len(all) < 1000 {
		t.Fatalf("%d tokens are too few", len(all))
	}
	source := rand.New(rand.NewSource(7))
	for range 300 {
		source.Shuffle(len(all), func(i, j int) { all[i], all[j] = all[j], all[i] })
		l := append(slices.Clone(all[:source.Intn(100)]), Token{Kind: End})
		got, fault := Tokens(Join(l...))
		if !slices.Equal(content(got), content(l)) || fault != (api.Fault{}) {
			t.Errorf("%v: got %v, %v", l, got, fault)
		}
		got, fault = Tokens(Join(l[:len(l)-1]...))
		if !slices.Equal(content(got), content(l)) || fault != (api.Fault{}) {
			t.Errorf("%v without End: got %v, %v", l, got, fault)
		}
	}
}

// Rule 6: the functions may be called at the same time.
func TestConcurrentCalls(t *testing.T) {
	texts := randomTexts(200)
	results := make([]int, 16)
	var group sync.WaitGroup
	for i := range results {
		group.Go(func() {
			for _, s := range texts {
				l, fault := Tokens(s)
				again, _ := Tokens(Join(l...))
				line, col := Place(s, len(s))
				_, _, first := Next(s, 0, 1, 1)
				wantLine, wantCol := placeOf(s, len(s))
				if line == wantLine && col == wantCol && (fault != (api.Fault{}) || first == (api.Fault{}) && slices.Equal(content(l), content(again))) {
					results[i]++
				}
			}
		})
	}
	group.Wait()
	for i, got := range results {
		if got != len(texts) {
			t.Errorf("goroutine %d: got %d right results of %d", i, got, len(texts))
		}
	}
}
