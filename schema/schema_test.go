package schema

import (
	"maps"
	"math"
	"math/big"
	"math/rand"
	"slices"
	"strconv"
	"strings"
	"testing"

	"treaty/api"
	"treaty/lexer"
)

// of returns the schema with these attributes.
func of(l ...api.Attribute) api.Schema { return api.Schema{Attributes: l} }

func aWord(name string, words ...string) api.Attribute {
	return api.Attribute{Name: name, Kind: api.KindWord, Words: words}
}

func aNumber(name string, low, high int) api.Attribute {
	return api.Attribute{Name: name, Kind: api.KindNumber, Low: low, High: high}
}

func aTruth(name string) api.Attribute { return api.Attribute{Name: name, Kind: api.KindTruth} }

// house is the schema of the chapter's examples.
func house() api.Schema {
	return of(aWord("peril", "fire", "flood"), aNumber("storeys", 1, 9), aTruth("alarm"))
}

// truths returns n attributes with different names.
func truths(n int) []api.Attribute {
	var l []api.Attribute
	for i := range n {
		l = append(l, aTruth("t"+strconv.Itoa(i)))
	}
	return l
}

// numbered returns n different names.
func numbered(n int) []string {
	var l []string
	for i := range n {
		l = append(l, "w"+strconv.Itoa(i))
	}
	return l
}

// broken are schemas that are not valid, with their errors.
func broken() map[string]struct {
	s    api.Schema
	want api.Errno
} {
	return map[string]struct {
		s    api.Schema
		want api.Errno
	}{
		"nothing":                    {api.Schema{}, api.ErrEmpty},
		"empty":                      {of([]api.Attribute{}...), api.ErrEmpty},
		"too many":                   {of(truths(api.MaxAttributes + 1)...), api.ErrLimit},
		"too many, and wrong":        {of(make([]api.Attribute, api.MaxAttributes+1)...), api.ErrLimit},
		"no name":                    {of(aTruth("")), api.ErrName},
		"a word of the language":     {of(aTruth("from")), api.ErrName},
		"a capital":                  {of(aTruth("Alarm")), api.ErrName},
		"a long name":                {of(aTruth(strings.Repeat("a", api.MaxName+1))), api.ErrName},
		"name before kind":           {of(api.Attribute{Name: "a-", Kind: 7}), api.ErrName},
		"name before duplicate":      {of(aTruth("a"), aTruth("A"), aTruth("a")), api.ErrName},
		"twice":                      {of(aTruth("a"), aTruth("b"), aTruth("a")), api.ErrDuplicate},
		"twice, other kind":          {of(aTruth("a"), aNumber("a", 1, 2)), api.ErrDuplicate},
		"duplicate before kind":      {of(aTruth("a"), api.Attribute{Name: "a", Kind: 7}), api.ErrDuplicate},
		"duplicate before fields":    {of(aTruth("a"), aNumber("a", 2, 1)), api.ErrDuplicate},
		"kind of the first":          {of(api.Attribute{Name: "a"}, aTruth("a")), api.ErrKind},
		"kind 0":                     {of(api.Attribute{Name: "a", Kind: 0}), api.ErrKind},
		"kind 4":                     {of(api.Attribute{Name: "a", Kind: 4}), api.ErrKind},
		"kind -1":                    {of(api.Attribute{Name: "a", Kind: -1}), api.ErrKind},
		"kind before fields":         {of(api.Attribute{Name: "a", Kind: 4, Low: 2, High: 1, Words: []string{"X"}}), api.ErrKind},
		"first attribute first":      {of(aNumber("a", 2, 1), aTruth("A")), api.ErrRange},
		"word with low":              {of(api.Attribute{Name: "a", Kind: api.KindWord, Low: -1}), api.ErrField},
		"word with high":             {of(api.Attribute{Name: "a", Kind: api.KindWord, High: 1, Words: []string{"x", "y"}}), api.ErrField},
		"no words":                   {of(aWord("a")), api.ErrEmpty},
		"too many words":             {of(aWord("a", numbered(api.MaxWords+1)...)), api.ErrLimit},
		"too many words, none names": {of(aWord("a", make([]string, api.MaxWords+1)...)), api.ErrLimit},
		"a word that is no name":     {of(aWord("a", "x", "y", "")), api.ErrName},
		"a reserved word":            {of(aWord("a", "x", "true")), api.ErrName},
		"names before duplicates":    {of(aWord("a", "x", "x", "3")), api.ErrName},
		"two equal words":            {of(aWord("a", "x", "y", "x")), api.ErrDuplicate},
		"two equal words at the end": {of(aWord("a", "x", "y", "y")), api.ErrDuplicate},
		"number with words":          {of(api.Attribute{Name: "a", Kind: api.KindNumber, Words: []string{"x"}, Low: 2, High: 1}), api.ErrField},
		"low above high":             {of(aNumber("a", 1, 0)), api.ErrRange},
		"low too small":              {of(aNumber("a", -api.MaxNumber-1, 0)), api.ErrRange},
		"high too great":             {of(aNumber("a", 0, api.MaxNumber+1)), api.ErrRange},
		"both too small":             {of(aNumber("a", -api.MaxNumber-2, -api.MaxNumber-1)), api.ErrRange},
		"both too great":             {of(aNumber("a", api.MaxNumber+1, api.MaxNumber+2)), api.ErrRange},
		"least int":                  {of(aNumber("a", math.MinInt, math.MinInt)), api.ErrRange},
		"greatest int":               {of(aNumber("a", math.MinInt, math.MaxInt)), api.ErrRange},
		"truth with words":           {of(api.Attribute{Name: "a", Kind: api.KindTruth, Words: []string{"no", "yes"}}), api.ErrField},
		"truth with low":             {of(api.Attribute{Name: "a", Kind: api.KindTruth, Low: 1}), api.ErrField},
		"truth with high":            {of(api.Attribute{Name: "a", Kind: api.KindTruth, High: 1}), api.ErrField},
		"the last one":               {of(append(truths(api.MaxAttributes-1), aTruth("to"))...), api.ErrName},
	}
}

// whole are schemas that are valid.
func whole() map[string]api.Schema {
	return map[string]api.Schema{
		"house":         house(),
		"one word":      of(aWord("a", "a")),
		"most words":    of(aWord("a", numbered(api.MaxWords)...)),
		"yes and no":    of(aWord("a", "yes", "no"), aTruth("yes"), aWord("no", "no", "yes")),
		"longest":       of(aWord(strings.Repeat("a", api.MaxName), strings.Repeat("b", api.MaxName))),
		"prefixes":      of(aWord("a", "a", "aa", "aaa"), aWord("aa", "aa", "a"), aTruth("aaa")),
		"one number":    of(aNumber("a", 0, 0)),
		"most negative": of(aNumber("a", -api.MaxNumber, -api.MaxNumber)),
		"widest":        of(aNumber("a", -api.MaxNumber, api.MaxNumber)),
		"around zero":   of(aNumber("a", -12, 12)),
		"no nil words":  of(api.Attribute{Name: "a", Kind: api.KindNumber, Words: []string{}}, api.Attribute{Name: "b", Kind: api.KindTruth, Words: []string{}}),
		"most":          of(truths(api.MaxAttributes)...),
	}
}

func TestKinds(t *testing.T) { // Ways
	if kindWord != api.KindWord || kindNumber != api.KindNumber || kindTruth != api.KindTruth {
		t.Errorf("%d %d %d", kindWord, kindNumber, kindTruth)
	}
}

func TestValidate(t *testing.T) { // P6.1
	for name, x := range broken() {
		if e := Validate(x.s); e != x.want {
			t.Errorf("%s: %d, not %d", name, e, x.want)
		}
	}
	for name, s := range whole() {
		if e := Validate(s); e != api.OK {
			t.Errorf("%s: %d", name, e)
		}
	}
}

// faults are the errors of the attribute i of a schema in the chapter's order, with what they say.
func faults(s api.Schema, i int) []api.Errno {
	a := s.Attributes[i]
	same, words, unnamed, double := false, len(a.Words) > 0, false, false
	for _, b := range s.Attributes[:i] {
		same = same || a.Name == b.Name
	}
	seen := map[string]bool{}
	for _, w := range a.Words {
		unnamed = unnamed || !lexer.Name(w)
		seen[w] = true
	}
	double = len(seen) < len(a.Words)
	bounds := a.Low != 0 || a.High != 0
	far := func(n int) bool { return new(big.Int).Abs(big.NewInt(int64(n))).Cmp(big.NewInt(api.MaxNumber)) > 0 }
	isWord, isNumber, isTruth := a.Kind == 1, a.Kind == 2, a.Kind == 3
	var l []api.Errno
	for _, x := range []struct {
		holds bool
		e     api.Errno
	}{
		{!lexer.Name(a.Name), api.ErrName}, {same, api.ErrDuplicate}, {!isWord && !isNumber && !isTruth, api.ErrKind},
		{isWord && bounds, api.ErrField}, {isWord && !words, api.ErrEmpty}, {isWord && len(a.Words) > 12, api.ErrLimit}, {isWord && unnamed, api.ErrName}, {isWord && double, api.ErrDuplicate},
		{isNumber && words, api.ErrField}, {isNumber && (a.Low > a.High || far(a.Low) || far(a.High)), api.ErrRange},
		{isTruth && (words || bounds), api.ErrField},
	} {
		if x.holds {
			l = append(l, x.e)
		}
	}
	return l
}

func TestValidateAgainstTheList(t *testing.T) { // P6.1
	r := rand.New(rand.NewSource(6))
	pick := func(l ...int) int { return l[r.Intn(len(l))] }
	found := map[api.Errno]int{}
	for range 40000 {
		var s api.Schema
		for range 1 + r.Intn(api.MaxAttributes) {
			a := api.Attribute{Name: []string{"a", "b", "c", "d", "e", "A"}[r.Intn(6)], Kind: pick(1, 1, 2, 2, 3, 3, 3, r.Intn(6)-1)}
			if a.Kind == 2 || r.Intn(9) == 0 {
				a.Low, a.High = pick(0, 1, 5, -api.MaxNumber, -api.MaxNumber-1, api.MaxNumber, math.MinInt, math.MaxInt), pick(0, 1, 5, 5, api.MaxNumber, api.MaxNumber+1, -api.MaxNumber, math.MinInt, math.MaxInt)
			}
			if a.Kind == 1 || r.Intn(9) == 0 {
				for range pick(0, 1, 1, 2, 2, 3, 12, 13) {
					a.Words = append(a.Words, []string{"x", "y", "z", "x" + strconv.Itoa(r.Intn(500)), "x" + strconv.Itoa(r.Intn(500)), "x" + strconv.Itoa(r.Intn(500)), "or"}[r.Intn(7-pick(0, 1, 1, 1, 1))])
				}
			}
			s.Attributes = append(s.Attributes, a)
		}
		want := api.OK
		for i := range s.Attributes {
			if l := faults(s, i); len(l) > 0 {
				want = l[0]
				break
			}
		}
		if e := Validate(s); e != want {
			t.Fatalf("%v: %d, not %d", s, e, want)
		}
		found[want]++
	}
	for _, e := range []api.Errno{api.OK, api.ErrName, api.ErrDuplicate, api.ErrKind, api.ErrField, api.ErrEmpty, api.ErrLimit, api.ErrRange} {
		if found[e] < 50 {
			t.Errorf("only %d schemas with the result %d", found[e], e)
		}
	}
}

func TestIndex(t *testing.T) { // P6.2
	for _, x := range []struct {
		s    api.Schema
		name string
		want int
		ok   bool
	}{
		{house(), "peril", 0, true},
		{house(), "storeys", 1, true},
		{house(), "alarm", 2, true},
		{house(), "fire", 0, false},
		{house(), "", 0, false},
		{house(), "Alarm", 0, false},
		{house(), "alar", 0, false},
		{house(), "alarms", 0, false},
		{api.Schema{}, "a", 0, false},
		{api.Schema{}, "", 0, false},
		{of(aTruth("a"), aTruth("b"), aTruth("b")), "b", 1, true}, // the first one, although the schema is not valid
		{of(aTruth(""), aTruth("A")), "A", 1, true},
		{of(aTruth("a"), aTruth("")), "", 1, true},
		{of(truths(20)...), "t19", 19, true},
	} {
		if i, ok := Index(x.s, x.name); i != x.want || ok != x.ok {
			t.Errorf("Index(%v, %q) = %d, %t", x.s, x.name, i, ok)
		}
	}
}

func TestDomain(t *testing.T) { // P6.2
	none := [2]int{0, -1}
	for _, x := range []struct {
		s    api.Schema
		i    int
		want [2]int
	}{
		{house(), 0, [2]int{0, 1}},
		{house(), 1, [2]int{1, 9}},
		{house(), 2, [2]int{0, 1}},
		{house(), 3, none},
		{house(), -1, none},
		{house(), math.MinInt, none},
		{house(), math.MaxInt, none},
		{of(aWord("a", "x")), 0, [2]int{0, 0}},
		{of(aWord("a", numbered(12)...)), 0, [2]int{0, 11}},
		{of(aNumber("a", -7, -3)), 0, [2]int{-7, -3}},
		{of(aNumber("a", -api.MaxNumber, api.MaxNumber)), 0, [2]int{-api.MaxNumber, api.MaxNumber}},
		{api.Schema{}, 0, none},
		{of(aNumber("a", 1, 2), aTruth("a")), 0, none}, // the schema is not valid
		{of(aNumber("a", 3, 2)), 0, none},
		{of(truths(api.MaxAttributes + 1)...), 2, none},
	} {
		if low, high := Domain(x.s, x.i); low != x.want[0] || high != x.want[1] {
			t.Errorf("Domain(%v, %d) = %d, %d", x.s, x.i, low, high)
		}
	}
	for name, x := range broken() {
		for i := range x.s.Attributes {
			if low, high := Domain(x.s, i); low != 0 || high != -1 {
				t.Errorf("%s: Domain %d = %d, %d", name, i, low, high)
			}
		}
	}
}

func TestValid(t *testing.T) { // P6.2
	wide := of(aNumber("a", -api.MaxNumber, api.MaxNumber))
	for _, x := range []struct {
		s     api.Schema
		facts []int
		want  bool
	}{
		{house(), []int{0, 1, 0}, true},
		{house(), []int{1, 9, 1}, true},
		{house(), []int{2, 5, 0}, false},
		{house(), []int{-1, 5, 0}, false},
		{house(), []int{0, 0, 0}, false},
		{house(), []int{0, 10, 0}, false},
		{house(), []int{0, 5, -1}, false},
		{house(), []int{0, 5, 2}, false},
		{house(), []int{0, 5}, false},
		{house(), []int{0, 5, 0, 0}, false},
		{house(), nil, false},
		{wide, []int{-api.MaxNumber}, true},
		{wide, []int{api.MaxNumber}, true},
		{wide, []int{-api.MaxNumber - 1}, false},
		{wide, []int{api.MaxNumber + 1}, false},
		{wide, []int{math.MinInt}, false},
		{wide, []int{math.MaxInt}, false},
		{api.Schema{}, nil, false},
		{of(aNumber("a", 1, 2), aNumber("a", 1, 2)), []int{1, 1}, false},
	} {
		if Valid(x.s, x.facts) != x.want {
			t.Errorf("Valid(%v, %v) = %t", x.s, x.facts, !x.want)
		}
	}
	for name, x := range broken() {
		if Valid(x.s, make([]int, len(x.s.Attributes))) {
			t.Errorf("%s: valid facts", name)
		}
	}
}

func TestCount(t *testing.T) { // P6.2
	for name, x := range broken() {
		if n := Count(x.s); n != 0 {
			t.Errorf("%s: %d", name, n)
		}
	}
	half := aNumber("half", 1, 1<<22)
	for _, x := range []struct {
		s    api.Schema
		want int
	}{
		{house(), 36},
		{of(aNumber("a", 5, 5)), 1},
		{of(aNumber("a", -api.MaxNumber, api.MaxNumber)), 2*api.MaxNumber + 1},
		{of(truths(api.MaxAttributes)...), 1 << api.MaxAttributes},
		{of(half, aNumber("a", 1, 1<<22)), api.MaxAmount},
		{of(half, aNumber("a", 1, 1<<22-1)), api.MaxAmount - 1<<22},
		{of(half, aNumber("a", 0, 1<<22)), api.MaxAmount},
		{of(half, aNumber("a", 1, 1<<22-1), aTruth("b")), api.MaxAmount},
		{of(half, aNumber("a", 1, 1<<21), aTruth("b")), api.MaxAmount},
		{of(half, aNumber("a", 1, 1<<21-1), aTruth("b")), api.MaxAmount - 1<<23},
		{of(aWord("a", "x"), half, aNumber("b", 1, 1<<22), aWord("c", "x")), api.MaxAmount},
		{of(aNumber("a", 0, api.MaxNumber), aNumber("b", 0, api.MaxNumber), aNumber("c", 0, api.MaxNumber), aNumber("d", 0, api.MaxNumber), aNumber("e", 0, api.MaxNumber), aTruth("f")), api.MaxAmount},
	} {
		if n := Count(x.s); n != x.want {
			t.Errorf("Count(%v) = %d, not %d", x.s, n, x.want)
		}
	}
	r := rand.New(rand.NewSource(62))
	for range 3000 {
		var l []api.Attribute
		product := big.NewInt(1)
		for i := range 1 + r.Intn(api.MaxAttributes) {
			size := 1 + r.Intn(1<<(1+r.Intn(30)))
			low := r.Intn(1000) - 500
			l = append(l, aNumber("n"+strconv.Itoa(i), low, min(low+size-1, api.MaxNumber)))
			product.Mul(product, big.NewInt(int64(l[i].High-l[i].Low+1)))
		}
		want := api.MaxAmount
		if product.Cmp(big.NewInt(api.MaxAmount)) < 0 {
			want = int(product.Int64())
		}
		if n := Count(of(l...)); n != want {
			t.Fatalf("Count(%v) = %d, not %d", l, n, want)
		}
	}
}

func TestFormatAndParse(t *testing.T) { // P6.3
	wide := of(aNumber("n", -api.MaxNumber, api.MaxNumber))
	for _, x := range []struct {
		s     api.Schema
		facts []int
		text  string
	}{
		{house(), []int{1, 3, 0}, "peril=flood; storeys=3; alarm=no"},
		{house(), []int{0, 9, 1}, "peril=fire; storeys=9; alarm=yes"},
		{wide, []int{0}, "n=0"},
		{wide, []int{-5}, "n=-5"},
		{wide, []int{-api.MaxNumber}, "n=-1000000000"},
		{wide, []int{api.MaxNumber}, "n=1000000000"},
		{whole()["yes and no"], []int{1, 1, 0}, "a=no; yes=yes; no=no"},
		{whole()["prefixes"], []int{1, 1, 0}, "a=aa; aa=a; aaa=no"},
		{whole()["longest"], []int{0}, "aaaaaaaaaaaaaaaa=bbbbbbbbbbbbbbbb"},
		{whole()["no nil words"], []int{0, 1}, "a=0; b=yes"},
	} {
		if s, e := Format(x.s, x.facts); s != x.text || e != api.OK {
			t.Errorf("Format(%v, %v) = %q, %d", x.s, x.facts, s, e)
		}
		if l, e := Parse(x.s, x.text); !slices.Equal(l, x.facts) || e != api.OK {
			t.Errorf("Parse(%v, %q) = %v, %d", x.s, x.text, l, e)
		}
	}
}

func TestFormatErrors(t *testing.T) { // P6.3
	for name, x := range broken() {
		for _, facts := range [][]int{nil, make([]int, len(x.s.Attributes)), {99}} {
			if s, e := Format(x.s, facts); s != "" || e != x.want {
				t.Errorf("%s: %q, %d", name, s, e)
			}
		}
	}
	for _, facts := range [][]int{nil, {}, {0, 1}, {0, 1, 0, 0}, {2, 1, 0}, {-1, 1, 0}, {0, 0, 0}, {0, 10, 0}, {0, 1, 2}, {0, 1, -1}, {math.MinInt, 1, math.MaxInt}} {
		if s, e := Format(house(), facts); s != "" || e != api.ErrFacts {
			t.Errorf("%v: %q, %d", facts, s, e)
		}
	}
}

func TestParseErrors(t *testing.T) { // P6.3
	for name, x := range broken() {
		for _, text := range []string{"", "a=yes", "a=x"} {
			if l, e := Parse(x.s, text); len(l) != 0 || e != x.want {
				t.Errorf("%s: Parse(%q) = %v, %d", name, text, l, e)
			}
		}
	}
	for _, text := range []string{
		"", "=", ";", "; ", "; ; ", "peril", "peril=", "peril=fire", "peril=fire; storeys=3", "peril=fire; storeys=3; ", "peril=fire; storeys=3; alarm", "peril=fire; storeys=3; alarm=",
		"peril=fire; storeys=3; alarm=no; ", "peril=fire; storeys=3; alarm=no;", "peril=fire; storeys=3; alarm=no ", " peril=fire; storeys=3; alarm=no", "peril=fire; storeys=3; alarm=no; alarm=no", "peril=fire; storeys=3; alarm=no; peril=fire; storeys=3; alarm=no",
		"peril=fire;storeys=3;alarm=no", "peril=fire;  storeys=3; alarm=no", "peril=fire, storeys=3, alarm=no", "peril=fire; alarm=no; storeys=3", "peril=fire; alarm=no", "peril =fire; storeys=3; alarm=no", "peril= fire; storeys=3; alarm=no", "peril==fire; storeys=3; alarm=no",
		"peril=Fire; storeys=3; alarm=no", "peril=theft; storeys=3; alarm=no", "peril=0; storeys=3; alarm=no", "peril=; storeys=3; alarm=no", "fire; storeys=3; alarm=no", "perils=fire; storeys=3; alarm=no",
		"peril=fire; storeys=0; alarm=no", "peril=fire; storeys=10; alarm=no", "peril=fire; storeys=03; alarm=no", "peril=fire; storeys=+3; alarm=no", "peril=fire; storeys=3.0; alarm=no", "peril=fire; storeys=0x3; alarm=no", "peril=fire; storeys=; alarm=no", "peril=fire; storeys=three; alarm=no", "peril=fire; storeys=99999999999999999999; alarm=no", "peril=fire; 3; alarm=no",
		"peril=fire; storeys=3; alarm=0", "peril=fire; storeys=3; alarm=true", "peril=fire; storeys=3; alarm=Yes", "peril=fire; storeys=3; alarm=nope", "peril=fire; storeys=3; no",
		strings.Repeat("peril=fire; ", 100000),
	} {
		if l, e := Parse(house(), text); len(l) != 0 || e != api.ErrSyntax {
			t.Errorf("Parse(%.60q) = %v, %d", text, l, e)
		}
	}
	number := of(aNumber("n", -20, 20))
	for _, text := range []string{"n=", "n=-", "n=-0", "n=00", "n=+0", "n=-05", "n=--5", "n=- 5", "n=5 ", "n=1_0", "n=1e1", "n=21", "n=-21", "n=18446744073709551616", "n=-9223372036854775809", "n=٣", "m=5", "n5", "5"} {
		if l, e := Parse(number, text); len(l) != 0 || e != api.ErrSyntax {
			t.Errorf("Parse(%q) = %v, %d", text, l, e)
		}
	}
}

// every returns all facts of a valid schema with a small number of them.
func every(s api.Schema) [][]int {
	l := [][]int{nil}
	for i := range s.Attributes {
		low, high := Domain(s, i)
		var longer [][]int
		for _, facts := range l {
			for v := low; v <= high; v++ {
				longer = append(longer, append(slices.Clone(facts), v))
			}
		}
		l = longer
	}
	return l
}

func TestTextsDetermineFacts(t *testing.T) { // P6.2, P6.4
	for name, s := range whole() {
		if Count(s) > 1<<12 {
			continue
		}
		texts := map[string][]int{}
		for _, facts := range every(s) {
			text, e := Format(s, facts)
			if e != api.OK || texts[text] != nil {
				t.Fatalf("%s: Format(%v) = %q, %d: two facts with one text", name, facts, text, e)
			}
			texts[text] = facts
			if back, e := Parse(s, text); !slices.Equal(back, facts) || e != api.OK {
				t.Fatalf("%s: Parse(%q) = %v, %d", name, text, back, e)
			}
		}
		if Count(s) != len(texts) {
			t.Errorf("%s: Count is %d, not %d", name, Count(s), len(texts))
		}
		nearby(t, s, texts)
	}
}

// nearby parses texts that differ from those of a schema by one byte: those that are no texts of facts themselves are refused.
func nearby(t *testing.T, s api.Schema, texts map[string][]int) {
	sorted := slices.Sorted(maps.Keys(texts))
	for _, text := range []string{sorted[0], sorted[len(sorted)/2], sorted[len(sorted)-1]} {
		for i := range len(text) + 1 {
			for _, c := range "\x00 +-0159;=Aabfnoxyz" {
				edits := []string{text[:i] + string(c) + text[i:]}
				if i < len(text) {
					edits = append(edits, text[:i]+text[i+1:], text[:i]+string(c)+text[i+1:])
				}
				for _, edit := range edits {
					want, known := texts[edit]
					l, e := Parse(s, edit)
					if known != (e == api.OK) || !slices.Equal(l, want) || !known && e != api.ErrSyntax {
						t.Fatalf("Parse(%v, %q) = %v, %d", s, edit, l, e)
					}
				}
			}
		}
	}
}

// TestMemory checks that no function changes its arguments, and that results are new. R3
func TestMemory(t *testing.T) {
	s, same := house(), house()
	facts := []int{1, 3, 0}
	text := "peril=flood; storeys=3; alarm=no"
	first, _ := Parse(s, text)
	second, _ := Parse(s, text)
	first[0] = 7
	Validate(s)
	Index(s, "alarm")
	Domain(s, 1)
	Valid(s, facts)
	Format(s, facts)
	Count(s)
	if !slices.Equal(second, facts) || !slices.Equal(facts, []int{1, 3, 0}) {
		t.Errorf("%v, %v", second, facts)
	}
	for i, a := range s.Attributes {
		b := same.Attributes[i]
		if a.Name != b.Name || a.Kind != b.Kind || a.Low != b.Low || a.High != b.High || !slices.Equal(a.Words, b.Words) {
			t.Errorf("%v has become %v", b, a)
		}
	}
}
