package lexer

import (
	"math"
	"math/rand"
	"regexp"
	"slices"
	"strconv"
	"strings"
	"testing"

	"treaty/api"
	"treaty/calendar"
)

// reserved are the words of the language, as the chapter lists them.
const reserved = "and average coinsurance condition cover deductible define end endorse exclude false franchise from in limit not or remove sublimit to true unless when"

// name, number, hour and mark without t are functions of the package; these make the tokens that a test expects.
func tName(s string, at int) api.Token { return api.Token{Kind: api.TokenName, Text: s, At: at} }

func tNumber(n, at int) api.Token { return api.Token{Kind: api.TokenNumber, Number: n, At: at} }

func tHour(n, at int) api.Token { return api.Token{Kind: api.TokenHour, Number: n, At: at} }

func tMark(s string, at int) api.Token { return api.Token{Kind: api.TokenMark, Text: s, At: at} }

func TestReserved(t *testing.T) { // P5.1
	words := strings.Fields(reserved)
	if len(words) != 23 {
		t.Fatalf("%d words", len(words))
	}
	for _, s := range words {
		if !Reserved(s) || Name(s) {
			t.Errorf("%s: Reserved %t, Name %t", s, Reserved(s), Name(s))
		}
		for _, x := range []string{s + "s", s + "-a", "x" + s, s[1:], s[:len(s)-1], strings.ToUpper(s), " " + s, s + " ", s + "\n"} {
			want := slices.Contains(words, x)
			if Reserved(x) != want {
				t.Errorf("Reserved(%q) = %t", x, !want)
			}
		}
	}
	for _, s := range []string{"", "-", "yes", "peril", "endorsement", "And", "AND", "ends", "and or"} {
		if Reserved(s) {
			t.Errorf("Reserved(%q)", s)
		}
	}
}

func TestName(t *testing.T) { // P5.1
	for s, want := range map[string]bool{
		"a": true, "z": true, "a0": true, "z9": true, "a-b": true, "a--b": true, "a-0": true, "ends": true, "end-of": true, "limit1": true,
		strings.Repeat("a", api.MaxName): true, strings.Repeat("a", api.MaxName-1) + "9": true, "a" + strings.Repeat("-", api.MaxName-2) + "b": true,
		strings.Repeat("a", api.MaxName+1): false, strings.Repeat("a", api.MaxName-1) + "-": false,
		"": false, "-": false, "a-": false, "-a": false, "0": false, "0a": false, "A": false, "aB": false, "a b": false, " a": false, "a ": false, "a\n": false, "a\x00": false,
		"a_b": false, "a.b": false, "é": false, "a\xff": false, "a`": false, "a{b": false, "a/b": false, "a:b": false, "end": false, "true": false,
	} {
		if Name(s) != want {
			t.Errorf("Name(%q) = %t", s, !want)
		}
	}
	word := regexp.MustCompile(`\A[a-z]([a-z0-9-]{0,14}[a-z0-9])?\z`)
	for b := range 256 {
		for _, s := range []string{string([]byte{byte(b)}), string([]byte{'a', byte(b)}), string([]byte{'a', byte(b), 'a'})} {
			if Name(s) != word.MatchString(s) || Reserved(s) {
				t.Errorf("Name(%q) = %t", s, Name(s))
			}
		}
	}
}

func TestScan(t *testing.T) { // P5.2
	for _, x := range []struct {
		text string
		want []api.Token
	}{
		{"", nil},
		{" ", nil},
		{"\n \n", nil},
		{"#", nil},
		{"# x", nil},
		{"#\x00\xff\r\tA@#\n", nil},
		{"#a\n#b\n\n#c", nil},
		{"a:1", []api.Token{tName("a", 0), tMark(":", 1), tNumber(1, 2)}},
		{";:,()", []api.Token{tMark(";", 0), tMark(":", 1), tMark(",", 2), tMark("(", 3), tMark(")", 4)}},
		{"a#b\nc", []api.Token{tName("a", 0), tName("c", 4)}},
		{"a\nb c", []api.Token{tName("a", 0), tName("b", 2), tName("c", 4)}},
		{"limit limits true", []api.Token{tName("limit", 0), tName("limits", 6), tName("true", 13)}},
		{"a1-b(c", []api.Token{tName("a1-b", 0), tMark("(", 4), tName("c", 5)}},
		{"abcdefghijklmnop", []api.Token{tName("abcdefghijklmnop", 0)}},
		{"a--b", []api.Token{tName("a--b", 0)}},
		{"0 -1 10", []api.Token{tNumber(0, 0), tNumber(-1, 2), tNumber(10, 5)}},
		{"17592186044416 -17592186044416", []api.Token{tNumber(api.MaxAmount, 0), tNumber(-api.MaxAmount, 15)}},
		{"1,-2#3", []api.Token{tNumber(1, 0), tMark(",", 1), tNumber(-2, 2)}},
		{"5@2000-01-01", []api.Token{tNumber(5, 0), tHour(0, 1)}},
		{"a@2000-01-01T23", []api.Token{tName("a", 0), tHour(23, 1)}},
		{"@2000-01-01T00", []api.Token{tHour(0, 0)}},
		{"@2099-12-31T23;", []api.Token{tHour(api.MaxHour, 0), tMark(";", 14)}},
		{"@2000-01-02to @2000-01-02@2000-01-03", []api.Token{tHour(24, 0), tName("to", 11), tHour(24, 14), tHour(48, 25)}},
		{" (a)\n", []api.Token{tMark("(", 1), tName("a", 2), tMark(")", 3)}},
	} {
		if l, at, e := Scan(x.text); !slices.Equal(l, x.want) || at != 0 || e != api.OK {
			t.Errorf("Scan(%q) = %v, %d, %d", x.text, l, at, e)
		}
	}
}

func TestScanError(t *testing.T) { // P5.2
	full := strings.Repeat(";", api.MaxTokens)
	for _, x := range []struct {
		text string
		at   int
		want api.Errno
	}{
		{"a-", 0, api.ErrName},
		{" a- b", 1, api.ErrName},
		{"a-A", 0, api.ErrName},
		{"abcdefghijklmnopq", 0, api.ErrName},
		{"abcdefghijklmno-", 0, api.ErrName},
		{"-", 0, api.ErrSyntax},
		{"--1", 0, api.ErrSyntax},
		{"-a", 0, api.ErrSyntax},
		{"- 1", 0, api.ErrSyntax},
		{"a 00", 2, api.ErrSyntax},
		{"a 007", 2, api.ErrSyntax},
		{"-0", 0, api.ErrSyntax},
		{"-01", 0, api.ErrSyntax},
		{"01a", 0, api.ErrSyntax},
		{"000000000000000000000000", 0, api.ErrSyntax},
		{"+1", 0, api.ErrSyntax},
		{"17592186044417", 0, api.ErrRange},
		{" -17592186044417", 1, api.ErrRange},
		{"9223372036854775808", 0, api.ErrRange},
		{"-9223372036854775809", 0, api.ErrRange},
		{"18446744073709551617", 0, api.ErrRange}, // 1, if it wrapped around
		{strings.Repeat("9", 1000), 0, api.ErrRange},
		{"017592186044417", 0, api.ErrSyntax},
		{"17592186044417a", 0, api.ErrRange},
		{"5a", 1, api.ErrSyntax},
		{"5-", 1, api.ErrSyntax},
		{"5-3", 1, api.ErrSyntax},
		{"-5z", 2, api.ErrSyntax},
		{"5A", 1, api.ErrSyntax},
		{"5and", 1, api.ErrSyntax},
		{"1.5", 1, api.ErrSyntax},
		{"@", 0, api.ErrSyntax},
		{"a @ 2000-01-01", 2, api.ErrSyntax},
		{"@T", 0, api.ErrSyntax},
		{"@@2000-01-01", 0, api.ErrSyntax},
		{"@2000-01-01T", 0, api.ErrSyntax},
		{"@2000-01-01T1", 0, api.ErrSyntax},
		{"@2000-01-01-", 0, api.ErrSyntax},
		{"@2000-01-01T00T", 0, api.ErrSyntax},
		{"@2000-01-015", 0, api.ErrSyntax},
		{"@2000-01-01t00", 0, api.OK}, // an hour and a word, t00
		{"@2001-02-29", 0, api.ErrRange},
		{"; @2000-01-01T24", 2, api.ErrRange},
		{"@2100-01-01", 0, api.ErrRange},
		{"A", 0, api.ErrSyntax},
		{"T", 0, api.ErrSyntax},
		{"aB", 1, api.ErrSyntax},
		{"a\tb", 1, api.ErrSyntax},
		{"a\r\n", 1, api.ErrSyntax},
		{"#a\nB", 3, api.ErrSyntax},
		{"é", 0, api.ErrSyntax},
		{"a\xff", 1, api.ErrSyntax},
		{"a\x00", 1, api.ErrSyntax},
		{"a A -", 2, api.ErrSyntax}, // the first one of several
		{"a- A", 0, api.ErrName},
		{strings.Repeat(" ", api.MaxText), 0, api.OK},
		{strings.Repeat(" ", api.MaxText+1), 0, api.ErrLimit},
		{strings.Repeat("A", api.MaxText+1), 0, api.ErrLimit},
		{strings.Repeat(" ", api.MaxText-1) + "A", api.MaxText - 1, api.ErrSyntax},
		{full, 0, api.OK},
		{full + " #a\n", 0, api.OK},
		{full + " a", api.MaxTokens + 1, api.ErrLimit},
		{full + ";;", api.MaxTokens, api.ErrLimit},
		{full + "a A", api.MaxTokens, api.ErrLimit},
		{full + "5a", api.MaxTokens, api.ErrLimit},
		{full + "@2000-01-01", api.MaxTokens, api.ErrLimit},
		{full + "a-", api.MaxTokens, api.ErrName},
		{full + "00", api.MaxTokens, api.ErrSyntax},
		{full + "17592186044417", api.MaxTokens, api.ErrRange},
		{full + "@2001-02-29", api.MaxTokens, api.ErrRange},
		{full + " A", api.MaxTokens + 1, api.ErrSyntax},
		{full[1:] + "5a", api.MaxTokens, api.ErrSyntax},
		{full[1:] + "5-", api.MaxTokens, api.ErrSyntax},
		{full[2:] + "A;;;", api.MaxTokens - 2, api.ErrSyntax},
	} {
		l, at, e := Scan(x.text)
		if at != x.at || e != x.want || e != api.OK && len(l) != 0 {
			t.Errorf("Scan(%.30q) of %d bytes = %d tokens, %d, %d, not %d, %d", x.text, len(x.text), len(l), at, e, x.at, x.want)
		}
	}
}

// The forms of the tokens. Each takes as much as it can.
var (
	gapForm    = regexp.MustCompile(`\A([ \n]|#[^\n]*)+`)
	nameForm   = regexp.MustCompile(`\A[a-z][a-z0-9-]*`)
	numberForm = regexp.MustCompile(`\A(-[0-9]*|[0-9]+)`)
	hourForm   = regexp.MustCompile(`\A@[0-9T-]*`)
	markForm   = regexp.MustCompile(`\A[;:,()]`)
	goodName   = regexp.MustCompile(`\A[a-z]([a-z0-9-]{0,14}[a-z0-9])?\z`)
	goodNumber = regexp.MustCompile(`\A(0|-?[1-9][0-9]*)\z`)
	noGap      = regexp.MustCompile(`\A[a-z-]`)
)

// read returns the token at the beginning of s as the chapter says, its text, and the error.
func read(s string) (api.Token, string, api.Errno) {
	if m := nameForm.FindString(s); m != "" {
		if !goodName.MatchString(m) {
			return api.Token{}, m, api.ErrName
		}
		return tName(m, 0), m, api.OK
	}
	if m := numberForm.FindString(s); m != "" {
		n, err := strconv.ParseInt(m, 10, 64)
		switch {
		case !goodNumber.MatchString(m):
			return api.Token{}, m, api.ErrSyntax
		case err != nil || n > api.MaxAmount || n < -api.MaxAmount:
			return api.Token{}, m, api.ErrRange
		}
		return tNumber(int(n), 0), m, api.OK
	}
	if m := hourForm.FindString(s); m != "" {
		n, e := calendar.Parse(m[1:])
		return tHour(n, 0), m, e
	}
	if m := markForm.FindString(s); m != "" {
		return tMark(m, 0), m, api.OK
	}
	return api.Token{}, s[:1], api.ErrSyntax
}

// slow is Scan for texts within the limits.
func slow(text string) ([]api.Token, int, api.Errno) {
	var l []api.Token
	for rest := text; ; {
		rest = rest[len(gapForm.FindString(rest)):]
		at := len(text) - len(rest)
		if rest == "" {
			return l, 0, api.OK
		}
		x, s, e := read(rest)
		if e != api.OK {
			return nil, at, e
		}
		x.At = at
		l = append(l, x)
		rest = rest[len(s):]
		if x.Kind == api.TokenNumber && noGap.MatchString(rest) {
			return nil, at + len(s), api.ErrSyntax
		}
	}
}

// same compares Scan with slow.
func same(t *testing.T, text string) {
	t.Helper()
	l, at, e := Scan(text)
	want, wantAt, wantE := slow(text)
	if !slices.Equal(l, want) || at != wantAt || e != wantE {
		t.Errorf("Scan(%q) = %v, %d, %d, not %v, %d, %d", text, l, at, e, want, wantAt, wantE)
	}
}

func TestScanEveryShortText(t *testing.T) { // P5.2
	const bytes = "a-05@T #\n;A"
	var grow func(text string, n int)
	grow = func(text string, n int) {
		same(t, text)
		if n > 0 {
			for i := range len(bytes) {
				grow(text+bytes[i:i+1], n-1)
			}
		}
	}
	grow("", 4)
	for b := range 256 {
		for _, before := range []string{"", "a", "1", "-", "@2000-01-01", "@", ";", " ", "#"} {
			same(t, before+string([]byte{byte(b)})+"a")
		}
	}
}

func TestScanTexts(t *testing.T) { // P5.2
	r := rand.New(rand.NewSource(5))
	parts := []string{" ", "\n", "#c", "#c\n", "a", "limit", "x-1", "-", "0", "7", "-12", "17592186044416", "17592186044417", "@2024-02-29", "@2023-02-29", "@2024-02-29T07", "T", ";", ":", ",", "(", ")", "abcdefghijklmnop", " ", " ", "  "}
	for range 20000 {
		var text string
		for range r.Intn(12) {
			text += parts[r.Intn(len(parts))]
		}
		same(t, text)
	}
}

func TestJoin(t *testing.T) { // P5.3
	for _, x := range []struct {
		l    []api.Token
		want string
	}{
		{nil, ""},
		{[]api.Token{tName("a", 0)}, "a"},
		{[]api.Token{tName("limit", 7), tName("a", -3), tNumber(-5, math.MinInt)}, "limit a -5"}, // At is ignored
		{[]api.Token{tName("f", 0), tMark("(", 0), tName("a", 0), tMark(",", 0), tName("b", 0), tMark(")", 0)}, "f (a, b)"},
		{[]api.Token{tMark(";", 0), tMark(";", 0), tMark(":", 0), tMark(",", 0), tMark(")", 0), tMark("(", 0), tMark("(", 0), tMark(")", 0), tMark("(", 0)}, ";;:,) (() ("},
		{[]api.Token{tMark("(", 0), tNumber(0, 0), tMark("(", 0)}, "(0 ("},
		{[]api.Token{tMark(":", 0), tMark("(", 0), tMark(":", 0)}, ": (:"},
		{[]api.Token{tMark(")", 0), tName("a", 0), tMark(")", 0), tNumber(1, 0), tMark(";", 0), tHour(0, 0)}, ") a) 1; @2000-01-01"},
		{[]api.Token{tHour(25, 0), tHour(api.MaxHour, 0), tMark(",", 0), tMark("(", 0), tHour(24, 0)}, "@2000-01-02T01 @2099-12-31T23, (@2000-01-02"},
		{[]api.Token{tNumber(api.MaxAmount, 0), tNumber(-api.MaxAmount, 0), tNumber(0, 0)}, "17592186044416 -17592186044416 0"},
	} {
		before := slices.Clone(x.l)
		if s, e := Join(x.l); s != x.want || e != api.OK {
			t.Errorf("Join(%v) = %q, %d", x.l, s, e)
		}
		if !slices.Equal(before, x.l) {
			t.Errorf("Join has changed %v", before)
		}
	}
}

func TestJoinError(t *testing.T) { // P5.3
	good := []api.Token{tName("a", 0), tNumber(1, 0), tHour(1, 0), tMark("(", 0)}
	for i, x := range []struct {
		l    []api.Token
		want api.Errno
	}{
		{[]api.Token{{}}, api.ErrKind},
		{[]api.Token{{Kind: -1, Text: "a"}}, api.ErrKind},
		{[]api.Token{{Kind: 5, Text: "A", Number: 1}}, api.ErrKind},
		{[]api.Token{{Kind: api.TokenNumber, Text: "1", Number: 1}}, api.ErrField},
		{[]api.Token{{Kind: api.TokenNumber, Text: "A", Number: math.MaxInt}}, api.ErrField},
		{[]api.Token{{Kind: api.TokenHour, Text: "a", Number: -1}}, api.ErrField},
		{[]api.Token{{Kind: api.TokenName, Text: "a", Number: 1}}, api.ErrField},
		{[]api.Token{{Kind: api.TokenName, Text: "A", Number: -1}}, api.ErrField},
		{[]api.Token{{Kind: api.TokenMark, Text: ";", Number: 1}}, api.ErrField},
		{[]api.Token{{Kind: api.TokenMark, Text: "<", Number: 1}}, api.ErrField},
		{[]api.Token{tName("", 0)}, api.ErrName},
		{[]api.Token{tName("a-", 0)}, api.ErrName},
		{[]api.Token{tName("-a", 0)}, api.ErrName},
		{[]api.Token{tName("1", 0)}, api.ErrName},
		{[]api.Token{tName("a b", 0)}, api.ErrName},
		{[]api.Token{tName("(", 0)}, api.ErrName},
		{[]api.Token{tName("abcdefghijklmnopq", 0)}, api.ErrName},
		{[]api.Token{tNumber(api.MaxAmount+1, 0)}, api.ErrRange},
		{[]api.Token{tNumber(-api.MaxAmount-1, 0)}, api.ErrRange},
		{[]api.Token{tNumber(math.MinInt, 0)}, api.ErrRange},
		{[]api.Token{tNumber(math.MaxInt, 0)}, api.ErrRange},
		{[]api.Token{tHour(-1, 0)}, api.ErrRange},
		{[]api.Token{tHour(api.MaxHour+1, 0)}, api.ErrRange},
		{[]api.Token{tHour(math.MinInt, 0)}, api.ErrRange},
		{[]api.Token{tMark("", 0)}, api.ErrSyntax},
		{[]api.Token{tMark("<", 0)}, api.ErrSyntax},
		{[]api.Token{tMark(";:", 0)}, api.ErrSyntax},
		{[]api.Token{tMark("()", 0)}, api.ErrSyntax},
		{[]api.Token{tMark(" ", 0)}, api.ErrSyntax},
		{[]api.Token{tMark("a", 0)}, api.ErrSyntax},
		{append(slices.Clone(good), tMark("<", 0), tName("A", 0)), api.ErrSyntax}, // of the first token that has one
		{append(slices.Clone(good), tHour(-1, 0), api.Token{}), api.ErrRange},
		{append(slices.Clone(good), tName("A", 0), tHour(-1, 0)), api.ErrName},
		{append(slices.Clone(good), api.Token{Kind: api.TokenMark, Text: ";", Number: 1}, api.Token{}), api.ErrField},
	} {
		if s, e := Join(x.l); s != "" || e != x.want {
			t.Errorf("case %d: %q, %d, not %d", i, s, e, x.want)
		}
	}
}

func TestJoinLimits(t *testing.T) { // P5.3
	semicolons := slices.Repeat([]api.Token{tMark(";", 0)}, api.MaxTokens)
	words := slices.Repeat([]api.Token{tName("abc", 0)}, api.MaxTokens) // 15,999 bytes
	exact := append(slices.Clone(words[1:]), tName("abcdefghijklmnop", 0))
	for i := range api.MaxText - 16012 {
		exact[i] = tName("abcd", 0)
	}
	bad := slices.Repeat([]api.Token{tName("abcdefghijklmnop", 0)}, api.MaxTokens)
	bad[api.MaxTokens-1] = tMark("<", 0)
	for i, x := range []struct {
		l     []api.Token
		bytes int
		want  api.Errno
	}{
		{semicolons, api.MaxTokens, api.OK},
		{append(semicolons, tMark(";", 0)), 0, api.ErrLimit},
		{slices.Repeat([]api.Token{{}}, api.MaxTokens+1), 0, api.ErrLimit}, // before the errors of the tokens
		{words, 15999, api.OK},
		{exact, api.MaxText, api.OK},
		{append([]api.Token{tName("abcde", 0)}, exact[1:]...), 0, api.ErrLimit},
		{bad[:api.MaxTokens-1], 0, api.ErrLimit},
		{bad, 0, api.ErrSyntax}, // after the errors of the tokens
	} {
		if s, e := Join(x.l); len(s) != x.bytes || e != x.want {
			t.Errorf("case %d: %d bytes, %d", i, len(s), e)
		}
	}
}

// withoutAt returns a copy of l in which the fields At are zero.
func withoutAt(l []api.Token) []api.Token {
	l = slices.Clone(l)
	for i := range l {
		l[i].At = 0
	}
	return l
}

func TestJoinedIsScanned(t *testing.T) { // P5.4
	r := rand.New(rand.NewSource(54))
	words := append(strings.Fields(reserved), "a", "a-b", "x9", "abcdefghijklmnop", "t00", "a--9")
	for range 5000 {
		var l []api.Token
		for range r.Intn(20) {
			switch r.Intn(6) {
			case 0, 1:
				l = append(l, tName(words[r.Intn(len(words))], 0))
			case 2:
				l = append(l, tNumber(r.Intn(2*api.MaxAmount+1)-api.MaxAmount, 0), tNumber(r.Intn(21)-10, 0))
			case 3:
				l = append(l, tHour(r.Intn(api.MaxHour+1), 0), tHour(24*r.Intn(36525), 0))
			default:
				i := r.Intn(len(marks))
				l = append(l, tMark(marks[i:i+1], 0))
			}
		}
		s, e := Join(l)
		got, at, e2 := Scan(s)
		if e != api.OK || e2 != api.OK || at != 0 || !slices.Equal(withoutAt(got), l) {
			t.Fatalf("Join(%v) = %q, %d, which is scanned as %v, %d, %d", l, s, e, got, at, e2)
		}
		for _, x := range got {
			if one, _, _ := read(s[x.At:]); one.Kind != x.Kind || one.Text != x.Text || one.Number != x.Number {
				t.Fatalf("%v is not at its offset in %q", x, s)
			}
		}
		if again, e := Join(got); again != s || e != api.OK {
			t.Fatalf("%q is joined as %q, %d", s, again, e)
		}
	}
}
