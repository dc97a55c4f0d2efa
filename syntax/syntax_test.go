package syntax

import (
	"math"
	"math/rand"
	"slices"
	"strconv"
	"strings"
	"testing"

	"treaty/api"
	"treaty/lexer"
)

func aTrue() api.Expr  { return api.Expr{Op: api.OpTrue} }
func aFalse() api.Expr { return api.Expr{Op: api.OpFalse} }

func aName(s string) api.Expr { return api.Expr{Op: api.OpName, Name: s} }

func anIn(name string, words ...string) api.Expr {
	return api.Expr{Op: api.OpIn, Name: name, Words: words}
}

func aBetween(name string, low, high int) api.Expr {
	return api.Expr{Op: api.OpBetween, Name: name, Low: low, High: high}
}

func aNot(e api.Expr) api.Expr { return api.Expr{Op: api.OpNot, Args: []api.Expr{e}} }

func anAnd(l ...api.Expr) api.Expr { return api.Expr{Op: api.OpAnd, Args: l} }

func anOr(l ...api.Expr) api.Expr { return api.Expr{Op: api.OpOr, Args: l} }

// numbered returns n different names.
func numbered(n int) []string {
	var l []string
	for i := range n {
		l = append(l, "w"+strconv.Itoa(i))
	}
	return l
}

// repeated returns n times e.
func repeated(n int, e api.Expr) []api.Expr { return slices.Repeat([]api.Expr{e}, n) }

// nested returns e behind n times not.
func nested(n int, e api.Expr) api.Expr {
	for range n {
		e = aNot(e)
	}
	return e
}

// with returns e after a change.
func with(e api.Expr, change func(*api.Expr)) api.Expr {
	change(&e)
	return e
}

// random returns a valid expression of at most about so many nodes, and at most so deep.
func random(r *rand.Rand, nodes, depth int) api.Expr {
	names := []string{"a", "b", "peril", "x-1"}
	name := names[r.Intn(len(names))]
	op := 1 + r.Intn(8)
	if nodes < 3 || depth < 2 {
		op = 1 + r.Intn(5)
	}
	switch op {
	case api.OpName:
		return aName(name)
	case api.OpIn:
		words := numbered(api.MaxWords)
		r.Shuffle(len(words), func(i, j int) { words[i], words[j] = words[j], words[i] })
		return anIn(name, words[:1+r.Intn(len(words))]...)
	case api.OpBetween:
		low := r.Intn(7) - 3
		return aBetween(name, low, low+r.Intn(5))
	case api.OpNot:
		return aNot(random(r, nodes-1, depth-1))
	case api.OpAnd, api.OpOr:
		n := 2 + r.Intn(3)
		e := api.Expr{Op: op}
		for range n {
			e.Args = append(e.Args, random(r, (nodes-1)/n, depth-1))
		}
		return e
	}
	return api.Expr{Op: op}
}

// all returns the nodes of e with their depths.
func all(e api.Expr) (nodes []api.Expr, depths []int) {
	nodes, depths = []api.Expr{e}, []int{1}
	for i := 0; i < len(nodes); i++ {
		for _, a := range nodes[i].Args {
			nodes, depths = append(nodes, a), append(depths, depths[i]+1)
		}
	}
	return nodes, depths
}

// wanted is Valid as the chapter lists it.
func wanted(e api.Expr) bool {
	nodes, depths := all(e)
	if len(nodes) > api.MaxSize || slices.Max(depths) > api.MaxDepth {
		return false
	}
	for _, n := range nodes {
		ok := n.Op >= 1 && n.Op <= 8
		if n.Op == api.OpName || n.Op == api.OpIn || n.Op == api.OpBetween {
			ok = ok && lexer.Name(n.Name)
		} else {
			ok = ok && n.Name == ""
		}
		if n.Op == api.OpIn {
			different := map[string]bool{}
			for _, w := range n.Words {
				different[w] = true
				ok = ok && lexer.Name(w)
			}
			ok = ok && len(n.Words) >= 1 && len(n.Words) <= api.MaxWords && len(different) == len(n.Words)
		} else {
			ok = ok && len(n.Words) == 0
		}
		if n.Op == api.OpBetween {
			ok = ok && n.Low >= -1000000000 && n.High <= 1000000000 && n.Low <= n.High
		} else {
			ok = ok && n.Low == 0 && n.High == 0
		}
		switch n.Op {
		case api.OpNot:
			ok = ok && len(n.Args) == 1
		case api.OpAnd, api.OpOr:
			ok = ok && len(n.Args) >= 2
		default:
			ok = ok && len(n.Args) == 0
		}
		if !ok {
			return false
		}
	}
	return true
}

func TestSizeAndDepth(t *testing.T) { // P7.1
	for i, x := range []struct {
		e           api.Expr
		size, depth int
	}{
		{api.Expr{}, 1, 1},
		{aTrue(), 1, 1},
		{anIn("a", "x", "y", "z"), 1, 1},
		{aNot(aName("a")), 2, 2},
		{anAnd(aName("a"), aNot(aName("b")), aTrue()), 5, 3},
		{anOr(aNot(aNot(aTrue())), aTrue()), 5, 4},
		{anOr(aTrue(), aNot(aNot(aTrue()))), 5, 4},
		{api.Expr{Op: 77, Args: repeated(5, aTrue())}, 6, 2},
		{api.Expr{Op: api.OpTrue, Args: repeated(2, aNot(aTrue()))}, 5, 3},
		{nested(1000, aTrue()), 1001, 1001},
		{nested(1<<16-1, aTrue()), 1 << 16, 1 << 16},
		{anOr(repeated(1<<16, aTrue())...), 1<<16 + 1, 2},
	} {
		if n, d := Size(x.e), Depth(x.e); n != x.size || d != x.depth {
			t.Errorf("case %d: %d, %d, not %d, %d", i, n, d, x.size, x.depth)
		}
	}
	r := rand.New(rand.NewSource(1))
	for range 2000 {
		e := random(r, 100, 12)
		nodes, depths := all(e)
		if Size(e) != len(nodes) || Depth(e) != slices.Max(depths) {
			t.Fatalf("%v: %d, %d", e, Size(e), Depth(e))
		}
	}
}

func TestSame(t *testing.T) { // P7.1
	e := anOr(anIn("a", "x", "y"), aBetween("b", 1, 2), aNot(aName("c")))
	last := func(f func(*api.Expr)) api.Expr { return anOr(e.Args[0], e.Args[1], aNot(with(aName("c"), f))) }
	for i, x := range []api.Expr{
		{}, with(e, func(e *api.Expr) { e.Op = api.OpAnd }), with(e, func(e *api.Expr) { e.Name = "a" }), with(e, func(e *api.Expr) { e.Words = []string{""} }),
		with(e, func(e *api.Expr) { e.Low = 1 }), with(e, func(e *api.Expr) { e.High = 1 }), with(e, func(e *api.Expr) { e.Args = e.Args[:2] }),
		with(e, func(e *api.Expr) { e.Args = append(slices.Clone(e.Args), aTrue()) }), anOr(e.Args[1], e.Args[0], e.Args[2]),
		anOr(anIn("a", "y", "x"), e.Args[1], e.Args[2]), anOr(anIn("a", "x"), e.Args[1], e.Args[2]), anOr(e.Args[0], aBetween("b", 0, 2), e.Args[2]), anOr(e.Args[0], aBetween("b", 1, 3), e.Args[2]),
		last(func(e *api.Expr) { e.Name = "C" }), last(func(e *api.Expr) { e.Op = 0 }), last(func(e *api.Expr) { e.Args = []api.Expr{{}} }),
	} {
		if Same(e, x) || Same(x, e) || !Same(x, x) {
			t.Errorf("case %d", i)
		}
	}
	if !Same(e, last(func(e *api.Expr) { e.Words, e.Args = []string{}, []api.Expr{} })) { // an empty slice is as none
		t.Error("empty slices")
	}
	if a, b := nested(5000, aTrue()), nested(5000, aFalse()); !Same(a, a) || Same(a, b) {
		t.Error("deep ones")
	}
	r := rand.New(rand.NewSource(2))
	for range 2000 {
		a, b := random(r, 6, 3), random(r, 6, 3)
		s, _ := Format(a)
		u, _ := Format(b)
		if Same(a, b) != (s == u) {
			t.Fatalf("%q, %q", s, u)
		}
	}
}

func TestNames(t *testing.T) { // P7.1
	for i, x := range []struct {
		e    api.Expr
		want string
	}{
		{aTrue(), ""}, {aName("a"), "a"}, {anIn("a", "b"), ""}, {aBetween("a", 1, 2), ""}, {aNot(aName("b")), "b"},
		{anOr(aName("c"), aName("a"), anAnd(aName("b"), aName("c"), aName("aa")), aName("a")), "a aa b c"},
		{api.Expr{Op: api.OpName, Name: "B", Args: []api.Expr{aName("9"), aName("-")}}, "- 9 B"}, // also of what is not valid
		{api.Expr{Op: 99, Name: "x", Args: repeated(3, aName("y"))}, "y"},
	} {
		if l := Names(x.e); strings.Join(l, " ") != x.want {
			t.Errorf("case %d: %q", i, l)
		}
	}
	if l := Names(aName("")); len(l) != 1 || l[0] != "" {
		t.Errorf("an empty name: %q", l)
	}
	r := rand.New(rand.NewSource(3))
	for range 500 {
		e := random(r, 100, 12)
		nodes, _ := all(e)
		l := Names(e)
		for i, s := range l {
			if i > 0 && l[i-1] >= s {
				t.Fatalf("%q", l)
			}
		}
		for _, n := range nodes {
			if n.Op == api.OpName && !slices.Contains(l, n.Name) {
				t.Fatalf("%q is not in %q", n.Name, l)
			}
		}
	}
}

// broken are expressions that are not valid.
func broken() map[string]api.Expr {
	l := map[string]api.Expr{
		"nothing": {}, "operator 9": {Op: 9}, "operator -1": {Op: -1}, "greatest operator": {Op: math.MaxInt}, "least operator": {Op: math.MinInt},
		"no name": aName(""), "reserved": aName("or"), "capital": aName("A"), "hyphen": aName("a-"), "long name": aName(strings.Repeat("a", api.MaxName+1)),
		"in without name": anIn("", "x"), "between without name": aBetween("", 1, 2), "in reserved": anIn("to", "x"), "between reserved": aBetween("in", 1, 2),
		"no words": anIn("a"), "no words, not nil": anIn("a", []string{}...), "two equal words": anIn("a", "x", "y", "x"), "last two equal": anIn("a", "x", "y", "y"), "a word that is no name": anIn("a", "x", "Y"), "empty word": anIn("a", ""), "reserved word": anIn("a", "x", "and"), "too many words": anIn("a", numbered(api.MaxWords+1)...),
		"low above high": aBetween("a", 1, 0), "low too small": aBetween("a", -api.MaxNumber-1, 0), "high too great": aBetween("a", 0, api.MaxNumber+1), "both too great": aBetween("a", api.MaxNumber+1, api.MaxNumber+1), "both too small": aBetween("a", -api.MaxNumber-1, -api.MaxNumber-1), "least low": aBetween("a", math.MinInt, 0), "greatest high": aBetween("a", 0, math.MaxInt),
		"not of nothing": {Op: api.OpNot}, "not of two": {Op: api.OpNot, Args: repeated(2, aTrue())}, "and of nothing": anAnd(), "or of nothing": anOr(), "and of one": anAnd(aTrue()), "or of one": anOr(aTrue()),
		"within not": aNot(api.Expr{}), "first argument": anAnd(aName("to"), aTrue()), "last argument": anOr(aTrue(), aTrue(), aNot(aNot(anAnd(aTrue())))),
		"too deep": nested(api.MaxDepth, aTrue()), "much too deep": nested(1<<16-1, aTrue()), "too deep at the end": anOr(aTrue(), nested(api.MaxDepth-1, aTrue())), "too great": anOr(repeated(api.MaxSize, aTrue())...), "much too great": anAnd(repeated(1<<16, aTrue())...),
		"too great, by its parts": anOr(anAnd(repeated(149, aTrue())...), anAnd(repeated(149, aTrue())...)), // 301 nodes
	}
	for op := 1; op <= 8; op++ { // fields that the operator does not have
		e := whole()["operator "+strconv.Itoa(op)]
		if op != api.OpName && op != api.OpIn && op != api.OpBetween {
			l["name of "+strconv.Itoa(op)] = with(e, func(e *api.Expr) { e.Name = "a" })
		}
		if op != api.OpIn {
			l["words of "+strconv.Itoa(op)] = with(e, func(e *api.Expr) { e.Words = []string{"x"} })
		}
		if op != api.OpBetween {
			l["low of "+strconv.Itoa(op)] = with(e, func(e *api.Expr) { e.Low = -1 })
			l["high of "+strconv.Itoa(op)] = with(e, func(e *api.Expr) { e.High = 1 })
			l["both of "+strconv.Itoa(op)] = with(e, func(e *api.Expr) { e.Low, e.High = 1, 1 })
		}
		if op < api.OpNot {
			l["argument of "+strconv.Itoa(op)] = with(e, func(e *api.Expr) { e.Args = []api.Expr{aTrue()} })
			l["arguments of "+strconv.Itoa(op)] = with(e, func(e *api.Expr) { e.Args = repeated(2, aTrue()) })
		}
	}
	return l
}

// whole are expressions that are valid.
func whole() map[string]api.Expr {
	return map[string]api.Expr{
		"operator 1": aTrue(), "operator 2": aFalse(), "operator 3": aName("a"), "operator 4": anIn("a", "x"), "operator 5": aBetween("a", 1, 2), "operator 6": aNot(aName("a")), "operator 7": anAnd(aName("a"), aName("b")), "operator 8": anOr(aName("a"), aName("b")),
		"longest name": aName(strings.Repeat("a", api.MaxName)), "most words": anIn("w0", numbered(api.MaxWords)...), "long word": anIn("a", strings.Repeat("b", api.MaxName)),
		"widest": aBetween("a", -api.MaxNumber, api.MaxNumber), "one number": aBetween("a", 0, 0), "negative": aBetween("a", -5, -5), "greatest": aBetween("a", api.MaxNumber, api.MaxNumber), "least": aBetween("a", -api.MaxNumber, -api.MaxNumber),
		"deepest": nested(api.MaxDepth-1, aTrue()), "deepest at the end": anOr(aTrue(), nested(api.MaxDepth-2, aTrue())), "greatest size": anOr(repeated(api.MaxSize-1, aTrue())...),
		"greatest size, by its parts": anOr(anAnd(repeated(149, aTrue())...), anAnd(repeated(148, aTrue())...)), // 300 nodes
		"empty slices":                {Op: api.OpTrue, Words: []string{}, Args: []api.Expr{}},
		"and within and":              anAnd(anAnd(aName("a"), aName("a")), anAnd(aName("a"), aName("a"))),
	}
}

func TestValid(t *testing.T) { // P7.1
	for name, e := range broken() {
		if Valid(e) || wanted(e) {
			t.Errorf("%s is valid", name)
		}
	}
	for name, e := range whole() {
		if !Valid(e) || !wanted(e) {
			t.Errorf("%s is not valid", name)
		}
	}
}

// spoil changes a node of e in a way that may leave it valid.
func spoil(r *rand.Rand, e api.Expr) api.Expr {
	if n := len(e.Args); n > 0 && r.Intn(4) > 0 {
		i := r.Intn(n)
		e.Args = slices.Clone(e.Args)
		e.Args[i] = spoil(r, e.Args[i])
		return e
	}
	numbers := []int{0, 1, -1, 3, -api.MaxNumber, api.MaxNumber, -api.MaxNumber - 1, api.MaxNumber + 1, math.MinInt, math.MaxInt}
	names := []string{"", "a", "w3", "w5", "A", "not", strings.Repeat("n", api.MaxName), strings.Repeat("n", api.MaxName+1)}
	switch r.Intn(8) {
	case 0:
		e.Op = r.Intn(10)
	case 1:
		e.Name = names[r.Intn(len(names))]
	case 2:
		e.Low = numbers[r.Intn(len(numbers))]
	case 3:
		e.High = numbers[r.Intn(len(numbers))]
	case 4:
		e.Words = append(slices.Clone(e.Words), names[r.Intn(len(names))])
	case 5:
		e.Words = e.Words[:len(e.Words)/2]
	case 6:
		e.Args = append(slices.Clone(e.Args), aName("a"))
	case 7:
		e.Args = e.Args[:len(e.Args)/2]
	}
	return e
}

func TestValidAsListed(t *testing.T) { // P7.1
	r := rand.New(rand.NewSource(4))
	var count [2]int
	for range 40000 {
		e := random(r, 20, 6)
		for range r.Intn(3) {
			e = spoil(r, e)
		}
		if Valid(e) != wanted(e) {
			t.Fatalf("%v: %v", e, Valid(e))
		}
		s, err := Format(e)
		if wanted(e) {
			count[1]++
		} else if count[0]++; s != "" || err != api.ErrSyntax { // P7.2
			t.Fatalf("%v: %q, %d", e, s, err)
		}
	}
	if count[0] < 10000 || count[1] < 10000 {
		t.Error(count)
	}
}

func TestValidOfMoreThanAnyTree(t *testing.T) { // P7.1: the limits are noticed without a look at all nodes
	args := make([]api.Expr, 100)
	e := anAnd(args...)
	for i := range args {
		args[i] = e
	}
	if Valid(e) {
		t.Error("an expression that contains itself")
	}
	e = aTrue()
	for range 60 {
		e = anAnd(e, e)
	}
	if Valid(e) {
		t.Error("2^61 nodes")
	}
	if s, err := Format(e); s != "" || err != api.ErrSyntax {
		t.Errorf("2^61 nodes: %q, %d", s, err)
	}
}

// texts are expressions with their texts.
func texts() map[string]api.Expr {
	a, b, c, d := aName("a"), aName("b"), aName("c"), aName("d")
	return map[string]api.Expr{
		"true": aTrue(), "false": aFalse(), "a": a, strings.Repeat("a", api.MaxName): aName(strings.Repeat("a", api.MaxName)),
		"peril in (fire, flood)": anIn("peril", "fire", "flood"), "peril in (flood, fire)": anIn("peril", "flood", "fire"), "a in (a)": anIn("a", "a"),
		"storeys from 1 to 3": aBetween("storeys", 1, 3), "a from -1000000000 to 1000000000": aBetween("a", -api.MaxNumber, api.MaxNumber), "a from 0 to 0": aBetween("a", 0, 0), "a from -2 to -1": aBetween("a", -2, -1),
		"not a": aNot(a), "not not true": aNot(aNot(aTrue())), "not a in (b)": aNot(anIn("a", "b")), "not a from 1 to 2": aNot(aBetween("a", 1, 2)), "not (a and b)": aNot(anAnd(a, b)), "not (a or b)": aNot(anOr(a, b)), "not not (a or b)": aNot(aNot(anOr(a, b))),
		"a and b": anAnd(a, b), "a and b and c": anAnd(a, b, c), "(a and b) and c": anAnd(anAnd(a, b), c), "a and (b and c)": anAnd(a, anAnd(b, c)), "a and (b or c)": anAnd(a, anOr(b, c)), "(a or b) and c": anAnd(anOr(a, b), c), "not a and b": anAnd(aNot(a), b), "a and not b": anAnd(a, aNot(b)), "a and a": anAnd(a, a),
		"a or b": anOr(a, b), "a or b or c": anOr(a, b, c), "(a or b) or c": anOr(anOr(a, b), c), "a or (b or c)": anOr(a, anOr(b, c)), "a and b or c": anOr(anAnd(a, b), c), "a or b and c": anOr(a, anAnd(b, c)), "a and b or c and d": anOr(anAnd(a, b), anAnd(c, d)), "a or b and not c": anOr(a, anAnd(b, aNot(c))),
		"a or b and c or d":                         anOr(a, anAnd(b, c), d),
		"a and (b or c and d) and not (a or not b)": anAnd(a, anOr(b, anAnd(c, d)), aNot(anOr(a, aNot(b)))),
	}
}

func TestFormat(t *testing.T) { // P7.2
	for want, e := range texts() {
		if s, err := Format(e); s != want || err != api.OK {
			t.Errorf("%q, %d, not %q", s, err, want)
		}
	}
	for name, e := range broken() {
		if s, err := Format(e); s != "" || err != api.ErrSyntax {
			t.Errorf("%s: %q, %d", name, s, err)
		}
	}
}

// longest returns an expression whose text has so many bytes, from about 15,000 on.
func longest(bytes int) api.Expr {
	word := func(i, size int) string {
		return strings.Repeat("x", size-2) + string(rune('a'+i/26)) + string(rune('a'+i%26))
	}
	text := func(e api.Expr) int { // each argument by itself, since the whole may be too long for Join
		n := -len(" or ")
		for _, a := range e.Args {
			s, _ := lexer.Join(written(nil, a))
			n += len(" or ") + len(s)
		}
		return n
	}
	var e api.Expr
	e.Op = api.OpOr
	for text(e) < bytes-250 {
		var words []string
		for i := range api.MaxWords {
			words = append(words, word(i, api.MaxName))
		}
		e.Args = append(e.Args, anIn(strings.Repeat("n", api.MaxName), words...))
	}
	for text(e) > bytes-20 {
		e.Args = e.Args[:len(e.Args)-1]
	}
	for missing := bytes - text(e); missing > 0; missing = bytes - text(e) {
		n := min(missing, 20)
		if missing > 20 && missing < 25 {
			n = 15
		}
		e.Args = append(e.Args, aName(strings.Repeat("n", n-4)))
	}
	return e
}

func TestFormatLimits(t *testing.T) { // P7.2
	for _, x := range []struct {
		e    api.Expr
		n    int
		want api.Errno
	}{{longest(api.MaxText - 1), api.MaxText - 1, api.OK}, {longest(api.MaxText), api.MaxText, api.OK}, {longest(api.MaxText + 1), 0, api.ErrLimit}, {longest(api.MaxText + 200), 0, api.ErrLimit}} {
		if !Valid(x.e) {
			t.Fatal("not valid")
		}
		if s, err := Format(x.e); len(s) != x.n || err != x.want {
			t.Errorf("%d bytes: %d, %d", x.n, len(s), err)
		}
	}
	// In short words, so that the number of tokens counts.
	short := anIn("a", "b", "c", "d", "e", "f", "g", "h", "i", "j", "k", "l", "m")
	for _, x := range []struct {
		more int
		want api.Errno
	}{{0, api.OK}, {1, api.ErrLimit}} {
		e := anOr(repeated(142, short)...) // 142 * 27 + 141 = 3975 tokens
		e.Args = append(e.Args, repeated(12, aName("a"))...)
		e.Args[142] = nested(1+x.more, aName("a")) // 3999 or 4000 tokens, and one more
		if l := len(written(nil, e)); l != api.MaxTokens+x.more {
			t.Fatalf("%d tokens", l)
		}
		if s, err := Format(e); !Valid(e) || err != x.want || s == "" != (err != api.OK) {
			t.Errorf("%d more: %d bytes, %d", x.more, len(s), err)
		}
	}
}

func TestParse(t *testing.T) { // P7.4
	a, b, c, d := aName("a"), aName("b"), aName("c"), aName("d")
	list := texts()
	list["(a or (b and c) and d) or (a and (b and c))"] = anOr(anOr(a, anAnd(anAnd(b, c), d)), anAnd(a, anAnd(b, c)))
	list["(a)"], list["((((a))))"], list["((a or b))"], list["not ((a))"] = a, a, anOr(a, b), aNot(a)
	list["(not a)and(true)"] = anAnd(aNot(a), aTrue())
	list[" \na#or b\nor\n#and\nb # x"] = anOr(a, b)
	list["a in(b,c)"], list["a in ( b , c ) "] = anIn("a", "b", "c"), anIn("a", "b", "c")
	list["(a and b) or c"], list["a or (b and c)"], list["(((a) and (b)))"] = anOr(anAnd(a, b), c), anOr(a, anAnd(b, c)), anAnd(a, b)
	list["a or (b and (c or d))"] = anOr(a, anAnd(b, anOr(c, d)))
	list[strings.Repeat("(", 1999)+"a"+strings.Repeat(")", 1999)] = a // parentheses are no nodes
	list[strings.Repeat("not ", api.MaxDepth-1)+"a"] = nested(api.MaxDepth-1, a)
	list["a"+strings.Repeat(" or a", api.MaxSize-2)] = anOr(repeated(api.MaxSize-1, a)...)
	list["a in ("+strings.Join(numbered(api.MaxWords), ", ")+")"] = anIn("a", numbered(api.MaxWords)...)
	for s, want := range list {
		if e, at, err := Parse(s); !Same(e, want) || at != 0 || err != api.OK {
			t.Errorf("%.50q: %v, %d, %d", s, e, at, err)
		}
	}
}

func TestParseErrors(t *testing.T) { // P7.3, P7.4
	many := strings.Join(numbered(api.MaxWords), ", ")
	for s, x := range map[string]struct {
		at  int
		err api.Errno
	}{
		"": {0, api.ErrSyntax}, "  ": {2, api.ErrSyntax}, "# a": {3, api.ErrSyntax}, "a b": {2, api.ErrSyntax}, "a and": {5, api.ErrSyntax}, "a and ": {6, api.ErrSyntax}, "a or or b": {5, api.ErrSyntax}, "and a": {0, api.ErrSyntax}, "not": {3, api.ErrSyntax}, "not and": {4, api.ErrSyntax}, "a not b": {2, api.ErrSyntax}, "not a b": {6, api.ErrSyntax},
		"(": {1, api.ErrSyntax}, "()": {1, api.ErrSyntax}, ")": {0, api.ErrSyntax}, "(a": {2, api.ErrSyntax}, "a)": {1, api.ErrSyntax}, "(a b)": {3, api.ErrSyntax}, "(a or b": {7, api.ErrSyntax}, "(a))": {3, api.ErrSyntax}, "((a)": {4, api.ErrSyntax}, "(a or)": {5, api.ErrSyntax}, "(a, b)": {2, api.ErrSyntax}, "a, b": {1, api.ErrSyntax}, "a;": {1, api.ErrSyntax}, "a: b": {1, api.ErrSyntax}, ",": {0, api.ErrSyntax},
		"in": {0, api.ErrSyntax}, "from": {0, api.ErrSyntax}, "to": {0, api.ErrSyntax}, "limit": {0, api.ErrSyntax}, "a or limit": {5, api.ErrSyntax}, "5": {0, api.ErrSyntax}, "@2000-01-01T00": {0, api.ErrSyntax}, "a 5": {2, api.ErrSyntax}, "true in (a)": {5, api.ErrSyntax}, "true from 1 to 2": {5, api.ErrSyntax}, "(a) in (b)": {4, api.ErrSyntax}, "a to 5": {2, api.ErrSyntax}, "true false": {5, api.ErrSyntax},
		"a in": {4, api.ErrSyntax}, "a in b": {5, api.ErrSyntax}, "a in (": {6, api.ErrSyntax}, "a in ()": {6, api.ErrSyntax}, "a in (,": {6, api.ErrSyntax}, "a in (b": {7, api.ErrSyntax}, "a in (b,": {8, api.ErrSyntax}, "a in (b,)": {8, api.ErrSyntax}, "a in (b c)": {8, api.ErrSyntax}, "a in (b and c)": {8, api.ErrSyntax}, "a in (true)": {6, api.ErrSyntax}, "a in (5)": {6, api.ErrSyntax}, "a in ((b))": {6, api.ErrSyntax}, "a in (b))": {8, api.ErrSyntax}, "a in (b) c": {9, api.ErrSyntax}, "a in (b) in (c)": {9, api.ErrSyntax}, "a in (b, to)": {9, api.ErrSyntax}, "a in (b; c)": {7, api.ErrSyntax},
		"a in (b, b": {9, api.ErrDuplicate}, "a in (b, c, b)": {12, api.ErrDuplicate}, "a in (b, c, c, 5)": {12, api.ErrDuplicate}, "a in (b, 5, b)": {9, api.ErrSyntax},
		"a in (" + many + ", z": {8 + len(many), api.ErrLimit}, "a in (" + many + ", w0)": {8 + len(many), api.ErrLimit}, "a in (" + many + ", to)": {8 + len(many), api.ErrSyntax}, "a in (" + many + ",)": {7 + len(many), api.ErrSyntax}, "a in (" + many: {6 + len(many), api.ErrSyntax},
		"a from": {6, api.ErrSyntax}, "a from b": {7, api.ErrSyntax}, "a from (1)": {7, api.ErrSyntax}, "a from 1": {8, api.ErrSyntax}, "a from 1 2": {9, api.ErrSyntax}, "a from 1 to": {11, api.ErrSyntax}, "a from 1 to b": {12, api.ErrSyntax}, "a from to 1": {7, api.ErrSyntax}, "a from 1 to 2 3": {14, api.ErrSyntax}, "a from 1 to 2 to 3": {14, api.ErrSyntax}, "a from 1 or 2": {9, api.ErrSyntax}, "from 1 to 2": {0, api.ErrSyntax},
		"a from 3 to 2": {12, api.ErrRange}, "a from 0 to -1": {12, api.ErrRange}, "a from 1000000001 to 5": {7, api.ErrRange}, "a from -1000000001 to 5": {7, api.ErrRange}, "a from 5 to 1000000001": {12, api.ErrRange}, "a from -5 to -1000000001": {13, api.ErrRange}, "a from 1000000001 b": {7, api.ErrRange}, "a from 17592186044416 to 0": {7, api.ErrRange}, "a from @2000-01-01T00": {7, api.ErrSyntax},
		"A": {0, api.ErrSyntax}, "a b-": {2, api.ErrName}, "or or 07": {6, api.ErrSyntax}, "or a b_c": {6, api.ErrSyntax}, "a @2000-13-01T00": {2, errorOf("@2000-13-01T00")}, "a 17592186044417": {2, api.ErrRange}, // those of the tokens come first
		strings.Repeat("not ", api.MaxDepth) + "a": {0, api.ErrLimit}, "  " + strings.Repeat("not ", api.MaxDepth) + "a b": {2, api.ErrLimit}, strings.Repeat("not ", api.MaxDepth) + "a and": {4*api.MaxDepth + 5, api.ErrSyntax}, strings.Repeat("not ", api.MaxDepth): {4 * api.MaxDepth, api.ErrSyntax},
		" (a" + strings.Repeat(" or a", api.MaxSize-1) + ")": {1, api.ErrLimit}, "a" + strings.Repeat(" or a", api.MaxSize-1) + " or": {6 + 5*(api.MaxSize-1) - 2, api.ErrSyntax}, "b in (c) and (a" + strings.Repeat(" or a", api.MaxSize-1) + ") 5": {0, api.ErrLimit},
		strings.Repeat("a ", api.MaxTokens+1): {2 * api.MaxTokens, api.ErrLimit}, strings.Repeat(" ", api.MaxText+1): {0, api.ErrLimit}, strings.Repeat("(", api.MaxTokens): {api.MaxTokens, api.ErrSyntax}, strings.Repeat("not ", api.MaxTokens): {4 * api.MaxTokens, api.ErrSyntax}, strings.Repeat("not ", api.MaxTokens-1) + "a": {0, api.ErrLimit},
	} {
		if e, at, err := Parse(s); !Same(e, api.Expr{}) || at != x.at || err != x.err {
			t.Errorf("%.60q: %v, %d, %d, not %d, %d", s, e, at, err, x.at, x.err)
		}
	}
}

// errorOf returns the error of a text that has no tokens.
func errorOf(s string) api.Errno {
	_, _, err := lexer.Scan(s)
	return err
}

// plain are tokens of which any list of the language can be put together.
func plain() []api.Token {
	return []api.Token{word("a"), word("b"), word("true"), word("not"), word("and"), word("or"), word("in"), word("from"), word("to"), mark("("), mark(")"), mark(","), number(1), number(2)}
}

// judged returns where the expression at the beginning of l ends, or its first error, by a machine that remembers how many parentheses are open.
func judged(l []api.Token) (end, bad int, err api.Errno) {
	state, open, low := "operand", 0, 0
	var words []string
	for i := 0; ; i++ {
		t := api.Token{}
		if i < len(l) {
			t = l[i]
		}
		is := func(texts ...string) bool {
			mark := t.Text == "(" || t.Text == ")" || t.Text == ","
			return (!mark && t.Kind == api.TokenName || mark && t.Kind == api.TokenMark) && slices.Contains(texts, t.Text)
		}
		name := t.Kind == api.TokenName && lexer.Name(t.Text)
		next := ""
		switch {
		case state == "operand" && is("("):
			open++
			next = "operand"
		case state == "operand" && is("not"):
			next = "operand"
		case state == "operand" && is("true", "false"):
			next = "done"
		case state == "operand" && name:
			next = "named"
		case state == "named" && is("in"):
			words, next = nil, "list"
		case state == "named" && is("from"):
			next = "low"
		case (state == "named" || state == "done") && is("and", "or"):
			next = "operand"
		case (state == "named" || state == "done") && is(")") && open > 0:
			open--
			next = "done"
		case (state == "named" || state == "done") && open == 0:
			return i, 0, api.OK
		case state == "list" && is("("), state == "listed" && is(","):
			next = "word"
		case state == "listed" && is(")"):
			next = "done"
		case state == "word" && name && len(words) == 12:
			return 0, i, api.ErrLimit
		case state == "word" && name && slices.Contains(words, t.Text):
			return 0, i, api.ErrDuplicate
		case state == "word" && name:
			words, next = append(words, t.Text), "listed"
		case (state == "low" || state == "high") && t.Kind == api.TokenNumber && (t.Number > api.MaxNumber || t.Number < -api.MaxNumber || state == "high" && t.Number < low):
			return 0, i, api.ErrRange
		case state == "low" && t.Kind == api.TokenNumber:
			low, next = t.Number, "to"
		case state == "to" && is("to"):
			next = "high"
		case state == "high" && t.Kind == api.TokenNumber:
			next = "done"
		}
		if next == "" {
			return 0, i, api.ErrSyntax
		}
		state = next
	}
}

// split returns the parts of l between the words s that are in no parentheses.
func split(l []api.Token, s string) [][]api.Token {
	open, from := 0, 0
	var parts [][]api.Token
	for i, t := range l {
		switch t.Text {
		case "(":
			open++
		case ")":
			open--
		case s:
			if open == 0 {
				parts, from = append(parts, l[from:i]), i+1
			}
		}
	}
	return append(parts, l[from:])
}

// built returns the expression that l is, which has no errors: what binds least is looked for first.
func built(l []api.Token) api.Expr {
	for op, s := range map[int]string{api.OpOr: "or", api.OpAnd: "and"} {
		if s == "and" && len(split(l, "or")) > 1 {
			continue
		}
		if parts := split(l, s); len(parts) > 1 {
			e := api.Expr{Op: op}
			for _, p := range parts {
				e.Args = append(e.Args, built(p))
			}
			return e
		}
	}
	switch {
	case l[0].Text == "not":
		return aNot(built(l[1:]))
	case l[0].Text == "(":
		return built(l[1 : len(l)-1])
	case l[0].Text == "true":
		return aTrue()
	case l[0].Text == "false":
		return aFalse()
	case len(l) == 1:
		return aName(l[0].Text)
	case l[1].Text == "from":
		return aBetween(l[0].Text, l[2].Number, l[4].Number)
	}
	e := anIn(l[0].Text)
	for i := 3; i < len(l); i += 2 {
		e.Words = append(e.Words, l[i].Text)
	}
	return e
}

// compare holds Tokens and Parse against judged and built.
func compare(t *testing.T, l []api.Token, at int) api.Errno {
	t.Helper()
	end, bad, err := judged(l[at:])
	var want api.Expr
	if err == api.OK {
		want = built(l[at : at+end])
		end += at
		if nodes, depths := all(want); len(nodes) > api.MaxSize || slices.Max(depths) > api.MaxDepth {
			want, end, bad, err = api.Expr{}, 0, 0, api.ErrLimit
		}
	}
	if err != api.OK {
		bad += at
	}
	if e, next, wrong, f := Tokens(l, at); !Same(e, want) || next != end || wrong != bad || f != err {
		t.Fatalf("%v from %d on: %v, %d, %d, %d, not %v, %d, %d, %d", l, at, e, next, wrong, f, want, end, bad, err)
	}
	return err
}

func TestTokensOfAllShortLists(t *testing.T) { // P7.3
	all := plain()
	var count [2]int
	for size := range 6 {
		l := make([]api.Token, size)
		which := make([]int, size)
		for {
			for i, w := range which {
				l[i] = all[w]
			}
			if compare(t, l, 0) == api.OK {
				count[1]++
			} else {
				count[0]++
			}
			i := 0
			for i < size {
				which[i]++
				if which[i] < len(all) {
					break
				}
				which[i] = 0
				i++
			}
			if i == size {
				break
			}
		}
	}
	if count[0] < 300000 || count[1] < 100000 {
		t.Error(count)
	}
}

func TestTokensOfChangedLists(t *testing.T) { // P7.3
	r := rand.New(rand.NewSource(5))
	others := append(plain(), number(-3), number(api.MaxNumber+1), number(-api.MaxNumber-1), number(math.MinInt), number(math.MaxInt), word("x-1"), word("w3"), word("w7"), word("end"), mark(";"), mark(":"),
		word("("), word(","), mark("a"), mark("and"), mark("not"), mark("true"), word(""), word("X"), mark(""), api.Token{}, api.Token{Kind: 9, Text: "a"}, api.Token{Kind: -1, Text: "("}, api.Token{Kind: api.TokenHour, Number: 5}, api.Token{Kind: api.TokenHour, Text: "a"},
		api.Token{Kind: api.TokenNumber, Text: "a", Number: 2}, api.Token{Kind: api.TokenName, Text: "or", Number: 8}, api.Token{Kind: api.TokenMark, Text: "(", Number: 8, At: 3}, api.Token{Kind: api.TokenName, Text: "b", At: -7})
	seen := map[api.Errno]int{}
	for range 60000 {
		l := written(nil, random(r, 30, 8))
		for range r.Intn(3) {
			i := r.Intn(len(l) + 1)
			switch r.Intn(5) {
			case 4:
				l = slices.Insert(l, i, slices.Repeat([]api.Token{word("not")}, r.Intn(api.MaxDepth))...)
			case 3:
				l = slices.Insert(l, i, word("more"), mark(","))
			case 0:
				l = slices.Insert(l, i, others[r.Intn(len(others))])
			case 1:
				l = slices.Delete(l, max(i-1, 0), i)
			case 2:
				if i < len(l) {
					l[i] = others[r.Intn(len(others))]
				}
			}
		}
		seen[compare(t, l, 0)]++
		seen[compare(t, l, r.Intn(len(l)+1))]++
	}
	for _, e := range []api.Errno{api.OK, api.ErrSyntax, api.ErrRange, api.ErrDuplicate, api.ErrLimit} {
		if seen[e] < 10 {
			t.Errorf("error %d: %d times", e, seen[e])
		}
	}
}

func TestTokens(t *testing.T) { // P7.3
	l, _, _ := lexer.Scan("cover a: b and (c or d); e f")
	for _, x := range []struct {
		at, next, bad int
		err           api.Errno
	}{
		{0, 0, 0, api.ErrSyntax}, {1, 2, 0, api.OK}, {2, 0, 2, api.ErrSyntax}, {3, 10, 0, api.OK}, {4, 0, 4, api.ErrSyntax}, {5, 10, 0, api.OK}, {6, 9, 0, api.OK}, {7, 0, 7, api.ErrSyntax}, {8, 9, 0, api.OK}, {9, 0, 9, api.ErrSyntax}, {10, 0, 10, api.ErrSyntax}, {11, 12, 0, api.OK}, {12, 13, 0, api.OK}, {13, 0, 13, api.ErrSyntax},
		{14, 0, 0, api.ErrRange}, {-1, 0, 0, api.ErrRange}, {math.MinInt, 0, 0, api.ErrRange}, {math.MaxInt, 0, 0, api.ErrRange},
	} {
		e, next, bad, err := Tokens(l, x.at)
		if next != x.next || bad != x.bad || err != x.err || (err == api.OK) != Valid(e) || err != api.OK && !Same(e, api.Expr{}) {
			t.Errorf("at %d: %v, %d, %d, %d", x.at, e, next, bad, err)
		}
	}
	if _, next, bad, err := Tokens(nil, 0); next != 0 || bad != 0 || err != api.ErrSyntax {
		t.Errorf("no tokens: %d, %d, %d", next, bad, err)
	}
	if _, _, _, err := Tokens(nil, 1); err != api.ErrRange {
		t.Errorf("no tokens: %d", err)
	}
}

func TestTokensOfLongLists(t *testing.T) { // P7.3: there may be more tokens than in a text
	const n = 1 << 16
	open, not := slices.Repeat([]api.Token{mark("(")}, n), slices.Repeat([]api.Token{word("not")}, n)
	closed := slices.Repeat([]api.Token{mark(")")}, n)
	a := []api.Token{word("a")}
	for i, x := range []struct {
		l         []api.Token
		at        int
		next, bad int
		err       api.Errno
	}{
		{slices.Concat(open, a, closed), 0, 2*n + 1, 0, api.OK}, {slices.Concat(open, a, closed), n - 1, n + 2, 0, api.OK}, {open, 0, 0, n, api.ErrSyntax}, {slices.Concat(open, a, closed[1:]), 0, 0, 2 * n, api.ErrSyntax},
		{not, 0, 0, n, api.ErrSyntax}, {slices.Concat(not, a), 0, 0, 0, api.ErrLimit}, {slices.Concat(not, a), n - 16, 0, n - 16, api.ErrLimit}, {slices.Concat(not, a), n - 15, n + 1, 0, api.OK}, {slices.Concat(not, a, closed), 3, 0, 3, api.ErrLimit}, {slices.Concat(not, not[:1], closed), 0, 0, n + 1, api.ErrSyntax},
		{slices.Repeat([]api.Token{word("a"), word("or")}, n), 0, 0, 2 * n, api.ErrSyntax}, {slices.Repeat([]api.Token{word("a"), word("or")}, n)[:2*n-1], 2, 0, 2, api.ErrLimit}, {slices.Repeat([]api.Token{word("a"), word("and")}, n)[:2*n-1], 2*n - 598, 2*n - 1, 0, api.OK}, {slices.Repeat([]api.Token{word("a"), word("and")}, n)[:2*n-1], 2*n - 600, 0, 2*n - 600, api.ErrLimit},
	} {
		if e, next, bad, err := Tokens(x.l, x.at); next != x.next || bad != x.bad || err != x.err || (err == api.OK) != Valid(e) {
			t.Errorf("case %d: %d, %d, %d", i, next, bad, err)
		}
	}
}

func TestWrittenIsRead(t *testing.T) { // P7.5
	r := rand.New(rand.NewSource(6))
	written := 0
	for range 20000 {
		e := random(r, 2+r.Intn(250), 1+r.Intn(api.MaxDepth))
		s, err := Format(e)
		if err == api.ErrLimit {
			continue
		}
		written++
		back, at, f := Parse(s)
		if err != api.OK || !Same(back, e) || at != 0 || f != api.OK {
			t.Fatalf("%q, %d: %v, %d, %d", s, err, back, at, f)
		}
	}
	for name, e := range whole() {
		s, err := Format(e)
		if back, _, f := Parse(s); err != api.OK || !Same(back, e) || f != api.OK {
			t.Errorf("%s: %q, %d, %d", name, s, err, f)
		}
	}
	if s, _ := Format(longest(api.MaxText)); len(s) != api.MaxText {
		t.Errorf("%d bytes", len(s))
	} else if back, _, err := Parse(s); !Same(back, longest(api.MaxText)) || err != api.OK {
		t.Error("the longest text")
	}
	if written < 19000 {
		t.Error(written)
	}
}

func TestArguments(t *testing.T) { // R3
	e := anOr(anIn("b", "y", "x"), aName("b"), anAnd(aName("a"), aBetween("c", 1, 2)))
	again := anOr(anIn("b", "y", "x"), aName("b"), anAnd(aName("a"), aBetween("c", 1, 2)))
	Valid(e)
	Size(e)
	Depth(e)
	Same(e, e)
	Format(e)
	l := Names(e)
	l[0], l[1] = "z", "z"
	if !Same(e, again) || !slices.Equal(Names(e), []string{"a", "b"}) {
		t.Errorf("%v", e)
	}
	tokens := written(nil, e)
	before := slices.Clone(tokens)
	a, _, _, _ := Tokens(tokens, 0)
	b, _, _, _ := Tokens(tokens, 0)
	a.Args[0].Words[0], a.Args[1] = "z", aTrue()
	a.Args[2].Args[0] = aTrue()
	if !slices.Equal(tokens, before) || !Same(b, e) {
		t.Errorf("%v, %v", tokens, b)
	}
}
