package wording

import (
	"maps"
	"math"
	"math/rand"
	"slices"
	"strconv"
	"strings"
	"testing"

	"treaty/api"
	"treaty/calendar"
	"treaty/lexer"
	"treaty/syntax"
)

const (
	day2031 = 271752                // the first hour of 2031
	day2032 = day2031 + 365*24      // the first hour of 2032
	lastDay = api.MaxHour - 23      // the first hour of the last day
	oneEnds = "endorse @2000-01-01" // an endorsement for the first two hours begins with it
	brief   = oneEnds + " to @2000-01-01T02:"
)

var first = api.Period{From: 0, To: 2}

func aTrue() api.Expr { return api.Expr{Op: api.OpTrue} }

func aName(s string) api.Expr { return api.Expr{Op: api.OpName, Name: s} }

func anIn(name string, words ...string) api.Expr {
	return api.Expr{Op: api.OpIn, Name: name, Words: words}
}

func aBetween(name string, low, high int) api.Expr {
	return api.Expr{Op: api.OpBetween, Name: name, Low: low, High: high}
}

func aNot(e api.Expr) api.Expr { return api.Expr{Op: api.OpNot, Args: []api.Expr{e}} }

func anAnd(l ...api.Expr) api.Expr { return api.Expr{Op: api.OpAnd, Args: l} }

func anOr(l ...api.Expr) api.Expr { return api.Expr{Op: api.OpOr, Args: l} }

// aClause returns a clause with the When true.
func aClause(kind int, name string, amount int) api.Clause {
	return api.Clause{Kind: kind, Name: name, When: aTrue(), Amount: amount}
}

func aCover(name string) api.Clause { return aClause(api.ClauseCover, name, 0) }

func anExclude(l ...api.WriteBack) api.Clause {
	return api.Clause{Kind: api.ClauseExclude, Name: "x", When: aTrue(), Unless: l}
}

func aBack(name string, l ...api.WriteBack) api.WriteBack {
	return api.WriteBack{Name: name, When: aTrue(), Unless: l}
}

// backs returns n write-backs beside one another.
func backs(n int) []api.WriteBack { return slices.Repeat([]api.WriteBack{aBack("w")}, n) }

// nested returns write-backs that are n deep, each with more beside it.
func nested(n, more int) []api.WriteBack {
	if n == 0 {
		return nil
	}
	return append(backs(more), aBack("w", nested(n-1, more)...))
}

func with(l ...api.Clause) api.Wording { return api.Wording{Clauses: l} }

func ends(l ...api.Endorsement) api.Wording { return api.Wording{Endorsements: l} }

// covers returns n covers with the same name.
func covers(n int) []api.Clause { return slices.Repeat([]api.Clause{aCover("a")}, n) }

// numbered returns n different names.
func numbered(n int) []string {
	var l []string
	for i := range n {
		l = append(l, "w"+strconv.Itoa(i))
	}
	return l
}

// every returns a wording with all that a wording may have.
func every() api.Wording {
	return api.Wording{
		Clauses: []api.Clause{
			{Kind: api.ClauseDefine, Name: "wet", When: anIn("peril", "flood", "storm")},
			{Kind: api.ClauseCover, Name: "all", When: anOr(aName("wet"), anAnd(aName("b"), aNot(aName("c"))))},
			{Kind: api.ClauseExclude, Name: "arson", When: aName("arson")},
			{Kind: api.ClauseExclude, Name: "war", When: anIn("peril", "war"), Unless: []api.WriteBack{
				{Name: "medic", When: anAnd(anOr(aName("a"), aName("b")), aName("c"))},
				{Name: "short", When: aBetween("days", -1, 3), Unless: []api.WriteBack{aBack("y", aBack("z")), {Name: "pirate", When: aName("armed")}}},
				aBack("medic"),
			}},
			{Kind: api.ClauseCondition, Name: "alarm", When: aNot(anAnd(aName("a"), aName("b")))},
			aClause(api.ClauseLimit, "top", 500),
			aClause(api.ClauseDeductible, "top", 1),
			{Kind: api.ClauseFranchise, Name: "some", When: anAnd(anOr(aName("a"), aName("b")), aName("c")), Amount: api.MaxMoney},
			aClause(api.ClauseCoinsurance, "part", api.Million),
			aClause(api.ClauseAverage, "under", 0),
			aClause(api.ClauseSublimit, "glass", 77),
		},
		Endorsements: []api.Endorsement{
			{Period: api.Period{From: day2031, To: day2032 + 5}, Remove: []string{"war", "top"}, Clauses: []api.Clause{aCover("more"), anExclude(aBack("w"))}},
			{Period: api.Period{From: 0, To: 1}},
			{Period: api.Period{From: lastDay, To: api.MaxHour}, Remove: []string{"unknown"}},
			{Period: first, Clauses: []api.Clause{aClause(api.ClauseLimit, "low", 5)}},
		},
	}
}

const everyText = `define wet: peril in (flood, storm);
cover all: wet or b and not c;
exclude arson: arson;
exclude war: peril in (war) unless (medic: (a or b) and c, short: days from -1 to 3 unless (y: true unless (z: true), pirate: armed), medic: true);
condition alarm: not (a and b);
limit top: 500 when true;
deductible top: 1 when true;
franchise some: 1073741824 when (a or b) and c;
coinsurance part: 1000000 when true;
average under: true;
sublimit glass: 77 when true;
endorse @2031-01-01 to @2032-01-01T05:
remove war, top;
cover more: true;
exclude x: true unless (w: true);
end;
endorse @2000-01-01 to @2000-01-01T01:
end;
endorse @2099-12-31 to @2099-12-31T23:
remove unknown;
end;
endorse @2000-01-01 to @2000-01-01T02:
limit low: 5 when true;
end;
`

// copied returns w in new memory, as far as the tests change it.
func copied(w api.Wording) api.Wording {
	w.Clauses = slices.Clone(w.Clauses)
	for i, c := range w.Clauses {
		w.Clauses[i].Unless = copiedBacks(c.Unless)
	}
	w.Endorsements = slices.Clone(w.Endorsements)
	for i, e := range w.Endorsements {
		w.Endorsements[i].Remove = slices.Clone(e.Remove)
		w.Endorsements[i].Clauses = copied(with(e.Clauses...)).Clauses
	}
	return w
}

func copiedBacks(l []api.WriteBack) []api.WriteBack {
	l = slices.Clone(l)
	for i, b := range l {
		l[i].Unless = copiedBacks(b.Unless)
	}
	return l
}

// randomExpr returns a valid expression that is not great.
func randomExpr(r *rand.Rand, depth int) api.Expr {
	name := []string{"a", "b", "c-1"}[r.Intn(3)]
	op := 1 + r.Intn(8)
	if depth == 1 {
		op = 1 + r.Intn(5)
	}
	switch op {
	case api.OpName:
		return aName(name)
	case api.OpIn:
		return anIn(name, numbered(1+r.Intn(3))...)
	case api.OpBetween:
		return aBetween(name, -r.Intn(3), r.Intn(3))
	case api.OpNot:
		return aNot(randomExpr(r, depth-1))
	case api.OpAnd:
		return anAnd(randomExpr(r, depth-1), randomExpr(r, depth-1))
	case api.OpOr:
		return anOr(randomExpr(r, depth-1), randomExpr(r, depth-1), randomExpr(r, depth-1))
	}
	return api.Expr{Op: op}
}

// randomBacks returns at most so many write-backs beside one another, with others within them.
func randomBacks(r *rand.Rand, n int) []api.WriteBack {
	var l []api.WriteBack
	for range r.Intn(n + 1) {
		l = append(l, api.WriteBack{Name: numbered(9)[r.Intn(9)], When: randomExpr(r, 2), Unless: randomBacks(r, n-1)})
	}
	return l
}

func randomClauses(r *rand.Rand, n int) []api.Clause {
	var l []api.Clause
	for range r.Intn(n + 1) {
		c := api.Clause{Kind: 1 + r.Intn(10), Name: numbered(20)[r.Intn(20)], When: randomExpr(r, 1+r.Intn(4))}
		if c.Kind == api.ClauseExclude {
			c.Unless = randomBacks(r, 3)
		}
		if most := greatest(c.Kind); most > 0 {
			c.Amount = []int{1, most, 1 + r.Intn(most)}[r.Intn(3)]
		}
		l = append(l, c)
	}
	return l
}

// random returns a valid wording.
func random(r *rand.Rand) api.Wording {
	w := api.Wording{Clauses: randomClauses(r, 8)}
	for range r.Intn(4) {
		e := api.Endorsement{Period: api.Period{From: r.Intn(api.MaxHour)}, Clauses: randomClauses(r, 3)}
		e.Period.To = e.Period.From + 1 + r.Intn(api.MaxHour-e.Period.From)
		e.Remove = numbered(r.Intn(4))
		w.Endorsements = append(w.Endorsements, e)
	}
	return w
}

// greatest returns the greatest Amount of a kind of clauses.
func greatest(kind int) int {
	switch kind {
	case api.ClauseLimit, api.ClauseDeductible, api.ClauseFranchise, api.ClauseSublimit:
		return 1073741824
	case api.ClauseCoinsurance:
		return 1000000
	}
	return 0
}

// wantedClause is P8.1's list for a clause.
func wantedClause(c api.Clause) bool {
	ok := c.Kind >= 1 && c.Kind <= 10 && lexer.Name(c.Name) && syntax.Valid(c.When)
	ok = ok && (c.Kind == api.ClauseExclude || len(c.Unless) == 0)
	if most := greatest(c.Kind); most > 0 {
		ok = ok && c.Amount >= 1 && c.Amount <= most
	} else {
		ok = ok && c.Amount == 0
	}
	count := 0
	level := c.Unless
	for depth := 1; len(level) > 0; depth++ {
		var next []api.WriteBack
		for _, b := range level {
			count++
			ok = ok && depth <= 16 && lexer.Name(b.Name) && syntax.Valid(b.When)
			next = append(next, b.Unless...)
		}
		level = next
	}
	return ok && count <= 40
}

// wanted is Valid as P8.1 lists it.
func wanted(w api.Wording) bool {
	ok := len(w.Clauses) <= 40 && len(w.Endorsements) <= 12
	for _, c := range w.Clauses {
		ok = ok && wantedClause(c)
	}
	for _, e := range w.Endorsements {
		ok = ok && 0 <= e.Period.From && e.Period.From < e.Period.To && e.Period.To <= api.MaxHour
		different := map[string]bool{}
		for _, s := range e.Remove {
			different[s] = true
			ok = ok && lexer.Name(s)
		}
		ok = ok && len(e.Remove) <= 40 && len(different) == len(e.Remove) && len(e.Clauses) <= 40
		for _, c := range e.Clauses {
			ok = ok && wantedClause(c)
		}
	}
	return ok
}

// broken are wordings that are not valid.
func broken() map[string]api.Wording {
	clauses := map[string]api.Clause{
		"nothing": {}, "kind 0": aClause(0, "a", 0), "kind 11": aClause(11, "a", 0), "kind -1": aClause(-1, "a", 0), "greatest kind": aClause(math.MaxInt, "a", 0), "least kind": aClause(math.MinInt, "a", 0),
		"no name": aCover(""), "reserved": aCover("cover"), "capital": aCover("A"), "hyphen": aCover("a-"), "long name": aCover(strings.Repeat("a", 17)),
		"no when": {Kind: api.ClauseCover, Name: "a"}, "when that is not valid": {Kind: api.ClauseCover, Name: "a", When: anAnd(aTrue())},
		"no name of a write-back": anExclude(aBack("")), "reserved write-back": anExclude(aBack("unless")), "no when of a write-back": anExclude(api.WriteBack{Name: "w"}), "second write-back": anExclude(aBack("w"), aBack("W")), "write-back within": anExclude(aBack("w", aBack("w", aBack("w"), aBack("W")))), "no when within": anExclude(aBack("w", api.WriteBack{Name: "w"}), aBack("w")),
		"too deep": anExclude(nested(17, 0)...), "too deep, others beside": anExclude(nested(17, 1)...), "much too deep": anExclude(nested(1<<16-1, 0)...), "too many": anExclude(backs(41)...), "much too many": anExclude(backs(1 << 16)...), "too many in all": anExclude(aBack("w", backs(20)...), aBack("w", backs(19)...)), "too many at the end": anExclude(append(backs(39), aBack("w", aBack("w")))...), "too many at the beginning": anExclude(append([]api.WriteBack{aBack("w", backs(39)...)}, backs(1)...)...),
		"too many beside nested ones": anExclude(nested(14, 2)...), // 42
	}
	l := map[string]api.Wording{}
	for kind := 1; kind <= 10; kind++ {
		s := strconv.Itoa(kind)
		most := greatest(kind)
		clauses["amount too small of "+s] = aClause(kind, "a", -1)
		clauses["amount too great of "+s] = aClause(kind, "a", most+1)
		clauses["least amount of "+s] = aClause(kind, "a", math.MinInt)
		clauses["greatest amount of "+s] = aClause(kind, "a", math.MaxInt)
		if most > 0 {
			clauses["no amount of "+s] = aClause(kind, "a", 0)
		}
		if kind != api.ClauseExclude {
			c := aClause(kind, "a", most)
			c.Unless = backs(1)
			clauses["write-back of "+s] = c
		}
	}
	for s, c := range clauses {
		l[s], l[s+", last"], l[s+", of an endorsement"] = with(c), with(aCover("a"), c), ends(api.Endorsement{Period: first}, api.Endorsement{Period: first, Clauses: []api.Clause{aCover("a"), c}})
	}
	for s, p := range map[string]api.Period{"no period": {}, "empty period": {From: 5, To: 5}, "reversed": {From: 5, To: 4}, "negative": {From: -1, To: 5}, "to beyond": {From: 0, To: api.MaxHour + 1}, "both beyond": {From: api.MaxHour, To: api.MaxHour + 1}, "least from": {From: math.MinInt, To: 5}, "greatest to": {From: 0, To: math.MaxInt}} {
		l[s], l[s+", last"] = ends(api.Endorsement{Period: p}), ends(api.Endorsement{Period: first}, api.Endorsement{Period: p})
	}
	for s, names := range map[string][]string{"removed capital": {"A"}, "removed reserved": {"a", "end"}, "removed nothing": {""}, "removed twice": {"a", "a"}, "removed twice, others between": {"b", "a", "c", "a"}, "too many removed": numbered(41), "much too many removed": slices.Repeat([]string{"a"}, 1<<16)} {
		l[s] = ends(api.Endorsement{Period: first, Remove: names})
	}
	l["too many clauses"], l["too many clauses of an endorsement"] = with(covers(41)...), ends(api.Endorsement{Period: first, Clauses: covers(41)})
	l["too many endorsements"] = ends(slices.Repeat([]api.Endorsement{{Period: first}}, 13)...)
	return l
}

// whole are wordings that are valid.
func whole() map[string]api.Wording {
	l := map[string]api.Wording{
		"nothing": {}, "empty slices": {Clauses: []api.Clause{}, Endorsements: []api.Endorsement{}}, "every": every(), "longest name": with(aCover(strings.Repeat("a", 16))), "two equal clauses": with(covers(2)...),
		"deepest": with(anExclude(nested(16, 0)...)), "deepest beside others": with(anExclude(nested(16, 1)...)), "most": with(anExclude(backs(40)...)), "most in all": with(anExclude(aBack("w", backs(20)...), aBack("w", backs(18)...))), "most, deep": with(anExclude(append(nested(16, 1), backs(8)...)...)), "most, within": with(anExclude(aBack("w", backs(39)...))), "most, each": with(slices.Repeat([]api.Clause{anExclude(backs(40)...)}, 40)...),
		"no write-backs, not nil": with(api.Clause{Kind: api.ClauseCover, Name: "a", When: aTrue(), Unless: []api.WriteBack{}}),
		"most clauses":            with(covers(40)...), "most endorsements": ends(slices.Repeat([]api.Endorsement{{Period: first, Clauses: covers(40), Remove: numbered(40)}}, 12)...), "most of all": {Clauses: covers(40), Endorsements: slices.Repeat([]api.Endorsement{{Period: first, Clauses: covers(20), Remove: numbered(3)}}, 12)},
		"one hour": ends(api.Endorsement{Period: api.Period{From: 0, To: 1}}), "last hour": ends(api.Endorsement{Period: api.Period{From: api.MaxHour - 1, To: api.MaxHour}}), "all hours": ends(api.Endorsement{Period: api.Period{From: 0, To: api.MaxHour}}), "the same period": ends(slices.Repeat([]api.Endorsement{{Period: first}}, 2)...),
		"removed, not there": ends(api.Endorsement{Period: first, Remove: []string{"b", "a"}}, api.Endorsement{Period: first, Remove: []string{"a", "b"}}),
	}
	for kind := 1; kind <= 10; kind++ {
		most := greatest(kind)
		l["kind "+strconv.Itoa(kind)] = with(aClause(kind, "a", most))
		l["least amount of "+strconv.Itoa(kind)] = with(aClause(kind, "a", min(most, 1)))
	}
	return l
}

func TestValid(t *testing.T) { // P8.1
	for name, w := range broken() {
		if Valid(w) || !strings.HasPrefix(name, "much") && wanted(w) {
			t.Errorf("%s is valid", name)
		}
		if s, err := Format(w); s != "" || err != api.ErrSyntax { // P8.2
			t.Errorf("%s: %q, %d", name, s, err)
		}
	}
	for name, w := range whole() {
		if !Valid(w) || !wanted(w) {
			t.Errorf("%s is not valid", name)
		}
	}
}

// spoil changes a wording at one place in a way that may leave it valid.
func spoil(r *rand.Rand, w api.Wording) api.Wording {
	w = copied(w)
	names := []string{"", "a", "w1", "w3", "A", "not", strings.Repeat("n", 16), strings.Repeat("n", 17)}
	hours := []int{0, 1, -1, api.MaxHour - 1, api.MaxHour, api.MaxHour + 1, math.MinInt, math.MaxInt, day2031}
	if n := len(w.Endorsements); n > 0 && r.Intn(2) == 0 {
		e := &w.Endorsements[r.Intn(n)]
		switch r.Intn(4) {
		case 0:
			e.Period.From = hours[r.Intn(len(hours))]
		case 1:
			e.Period.To = hours[r.Intn(len(hours))]
		case 2:
			e.Remove = append(e.Remove, names[r.Intn(len(names))])
		case 3:
			e.Clauses = spoil(r, with(e.Clauses...)).Clauses
		}
		return w
	}
	if len(w.Clauses) == 0 {
		w.Clauses = covers(39 + r.Intn(3))
		return w
	}
	c := &w.Clauses[r.Intn(len(w.Clauses))]
	switch r.Intn(5) {
	case 0:
		c.Kind = r.Intn(12)
	case 1:
		c.Name = names[r.Intn(len(names))]
	case 2:
		c.When = []api.Expr{{}, aTrue(), aName("to"), anOr(aTrue(), aTrue()), anOr(aTrue())}[r.Intn(5)]
	case 3:
		c.Amount = []int{0, 1, -1, api.Million, api.Million + 1, api.MaxMoney, api.MaxMoney + 1, math.MinInt, math.MaxInt}[r.Intn(9)]
	case 4:
		c.Unless = spoilBacks(r, c.Unless, names)
	}
	return w
}

// spoilBacks changes write-backs, which are new memory.
func spoilBacks(r *rand.Rand, l []api.WriteBack, names []string) []api.WriteBack {
	if len(l) > 0 && r.Intn(4) > 0 {
		b := &l[r.Intn(len(l))]
		switch r.Intn(4) {
		case 0:
			b.Name = names[r.Intn(len(names))]
		case 1:
			b.When = []api.Expr{{}, aName("to"), anOr(aTrue(), aTrue())}[r.Intn(3)]
		default:
			b.Unless = spoilBacks(r, b.Unless, names)
		}
		return l
	}
	switch r.Intn(4) {
	case 0:
		return append(l, backs(34+r.Intn(8))...)
	case 1:
		return append(l, nested(13+r.Intn(5), r.Intn(2))...)
	case 2:
		return nil
	}
	return append(l, aBack("w"))
}

func TestValidAsListed(t *testing.T) { // P8.1
	r := rand.New(rand.NewSource(1))
	var count [2]int
	for range 40000 {
		w := random(r)
		for range r.Intn(3) {
			w = spoil(r, w)
		}
		if Valid(w) != wanted(w) {
			t.Fatalf("%v: %v", w, Valid(w))
		}
		s, err := Format(w)
		if wanted(w) {
			count[1]++
		} else if count[0]++; s != "" || err != api.ErrSyntax { // P8.2
			t.Fatalf("%v: %q, %d", w, s, err)
		}
	}
	if count[0] < 10000 || count[1] < 10000 {
		t.Error(count)
	}
}

func TestValidOfMoreThanAnyTree(t *testing.T) { // P8.1: the limits are noticed without a look at all write-backs
	l := backs(100)
	for i := range l {
		l[i].Unless = l
	}
	if Valid(with(anExclude(l...))) {
		t.Error("write-backs that contain themselves")
	}
	l = backs(2)
	for range 60 {
		l = []api.WriteBack{aBack("w", l...), aBack("w", l...)}
	}
	if Valid(with(anExclude(l...))) {
		t.Error("2^62 write-backs")
	}
	if s, err := Format(with(anExclude(l...))); s != "" || err != api.ErrSyntax {
		t.Errorf("2^62 write-backs: %q, %d", s, err)
	}
}

func TestSame(t *testing.T) { // P8.1
	w := every()
	for i, f := range []func(*api.Wording){
		func(w *api.Wording) { w.Clauses = nil }, func(w *api.Wording) { w.Clauses = w.Clauses[1:] }, func(w *api.Wording) { w.Clauses = append(w.Clauses, aCover("z")) }, func(w *api.Wording) { w.Clauses[0], w.Clauses[1] = w.Clauses[1], w.Clauses[0] },
		func(w *api.Wording) { w.Clauses[1].Kind = 0 }, func(w *api.Wording) { w.Clauses[10].Kind = api.ClauseLimit }, func(w *api.Wording) { w.Clauses[1].Name = "al" }, func(w *api.Wording) { w.Clauses[1].Amount = -1 }, func(w *api.Wording) { w.Clauses[5].Amount++ }, func(w *api.Wording) { w.Clauses[0].When = anIn("peril", "storm", "flood") }, func(w *api.Wording) { w.Clauses[10].When = api.Expr{} },
		func(w *api.Wording) { w.Clauses[1].Unless = backs(1) }, func(w *api.Wording) { w.Clauses[3].Unless = nil }, func(w *api.Wording) { w.Clauses[3].Unless = w.Clauses[3].Unless[:2] }, func(w *api.Wording) { w.Clauses[3].Unless[2].Name = "medi" }, func(w *api.Wording) { w.Clauses[3].Unless[0].When.Op = api.OpOr }, func(w *api.Wording) { w.Clauses[3].Unless[0].Unless = backs(1) }, func(w *api.Wording) { w.Clauses[3].Unless[1].Unless[0].Unless = nil }, func(w *api.Wording) { w.Clauses[3].Unless[1].Unless[0].Unless[0].Name = "y" }, func(w *api.Wording) { w.Clauses[3].Unless[1].Unless[1].When = aTrue() },
		func(w *api.Wording) { w.Endorsements = nil }, func(w *api.Wording) { w.Endorsements = w.Endorsements[:3] }, func(w *api.Wording) { w.Endorsements = append(w.Endorsements, api.Endorsement{}) }, func(w *api.Wording) { w.Endorsements[0], w.Endorsements[1] = w.Endorsements[1], w.Endorsements[0] }, func(w *api.Wording) { w.Endorsements[1].Period.From = -1 }, func(w *api.Wording) { w.Endorsements[1].Period.To = 2 },
		func(w *api.Wording) { w.Endorsements[0].Remove = nil }, func(w *api.Wording) { w.Endorsements[0].Remove = []string{"top", "war"} }, func(w *api.Wording) { w.Endorsements[0].Remove[1] = "to" }, func(w *api.Wording) { w.Endorsements[1].Remove = []string{""} }, func(w *api.Wording) { w.Endorsements[0].Clauses[0].Name = "x" }, func(w *api.Wording) { w.Endorsements[0].Clauses[1].Unless[0].Name = "x" }, func(w *api.Wording) { w.Endorsements[0].Clauses = w.Endorsements[0].Clauses[:1] }, func(w *api.Wording) { w.Endorsements[1].Clauses = covers(1) },
	} {
		x := copied(w)
		f(&x)
		if Same(w, x) || Same(x, w) || !Same(x, x) {
			t.Errorf("case %d", i)
		}
	}
	x := copied(w)
	x.Clauses[0].Unless, x.Endorsements[1].Remove, x.Endorsements[1].Clauses, x.Clauses[3].Unless[0].Unless = []api.WriteBack{}, []string{}, []api.Clause{}, []api.WriteBack{}
	if !Same(w, x) || !Same(x, w) || !Same(api.Wording{}, api.Wording{Clauses: []api.Clause{}, Endorsements: []api.Endorsement{}}) { // an empty slice is as none
		t.Error("empty slices")
	}
	if a, b := with(anExclude(nested(5000, 0)...)), with(anExclude(nested(5001, 0)...)); !Same(a, a) || Same(a, b) {
		t.Error("deep ones")
	}
	r := rand.New(rand.NewSource(2))
	for range 5000 {
		a := random(r)
		b := spoil(r, a)
		s, _ := Format(a)
		if u, err := Format(b); err == api.OK && Same(a, b) != (s == u) || !Same(a, copied(a)) {
			t.Fatalf("%q, %q", s, u)
		}
	}
}

func TestFind(t *testing.T) { // P8.1
	l := []api.Clause{aCover("a"), aCover("b"), aClause(api.ClauseLimit, "a", 5), aCover("c"), aCover(""), {}, aCover("A")}
	for s, want := range map[string]int{"a": 0, "b": 1, "c": 3, "": 4, "A": 6} {
		if i, ok := Find(l, s); i != want || !ok {
			t.Errorf("%q: %d, %v", s, i, ok)
		}
	}
	for _, s := range []string{"d", "aa", "x", "B"} {
		if i, ok := Find(l, s); i != 0 || ok {
			t.Errorf("%q: %d, %v", s, i, ok)
		}
	}
	if i, ok := Find(l[3:], "c"); i != 0 || !ok {
		t.Errorf("the first one: %d, %v", i, ok)
	}
	if i, ok := Find(nil, ""); i != 0 || ok {
		t.Errorf("no clauses: %d, %v", i, ok)
	}
}

// scanned returns the tokens of a text that has no errors, all at 0.
func scanned(s string) []api.Token {
	l, _, _ := lexer.Scan(s)
	for i := range l {
		l[i].At = 0
	}
	return l
}

// lines returns the tokens of the lines that P8.2 wants.
func lines(w api.Wording) [][]api.Token {
	var l [][]api.Token
	for _, c := range w.Clauses {
		l = append(l, clauseLine(c))
	}
	for _, e := range w.Endorsements {
		from, to := api.Token{Kind: api.TokenHour, Number: e.Period.From}, api.Token{Kind: api.TokenHour, Number: e.Period.To}
		l = append(l, slices.Concat(scanned("endorse"), []api.Token{from}, scanned("to"), []api.Token{to}, scanned(":")))
		if len(e.Remove) > 0 {
			l = append(l, scanned("remove "+strings.Join(e.Remove, ",")+";"))
		}
		l = append(l, lines(with(e.Clauses...))...)
		l = append(l, scanned("end;"))
	}
	return l
}

func clauseLine(c api.Clause) []api.Token {
	word := []string{"", "define", "cover", "exclude", "condition", "limit", "deductible", "franchise", "coinsurance", "average", "sublimit"}[c.Kind]
	amount := ""
	if c.Kind >= api.ClauseLimit && c.Kind != api.ClauseAverage {
		amount = strconv.Itoa(c.Amount) + " when"
	}
	s, _ := syntax.Format(c.When)
	return slices.Concat(scanned(word+" "+c.Name+":"+amount), scanned(s), unlessTokens(c.Unless), scanned(";"))
}

func unlessTokens(l []api.WriteBack) []api.Token {
	var list []api.Token
	for i, b := range l {
		s, _ := syntax.Format(b.When)
		list = slices.Concat(list, scanned([]string{"unless (", ","}[min(i, 1)]+b.Name+":"), scanned(s), unlessTokens(b.Unless))
	}
	if len(l) > 0 {
		list = append(list, scanned(")")...)
	}
	return list
}

// wantedText is P8.2's text of a valid wording, and its number of tokens.
func wantedText(w api.Wording) (string, int) {
	s, n := "", 0
	for _, l := range lines(w) {
		line, _ := lexer.Join(l)
		s += line + "\n"
		n += len(l)
	}
	return s, n
}

func TestFormat(t *testing.T) { // P8.2
	for want, w := range map[string]api.Wording{
		everyText: every(), "": {},
		"exclude x: true unless (w: true, w: true unless (w: true, w: true));\n": with(anExclude(nested(2, 1)...)),
		brief + "\nend;\n": ends(api.Endorsement{Period: first}),
		brief + "\nremove w0, w1, w2;\ncover a: true;\ncover a: true;\nend;\n": ends(api.Endorsement{Period: first, Remove: numbered(3), Clauses: covers(2)}),
		"endorse @2099-12-31T22 to @2099-12-31T23:\nend;\n":                    ends(api.Endorsement{Period: api.Period{From: api.MaxHour - 1, To: api.MaxHour}}),
	} {
		if s, err := Format(w); s != want || err != api.OK {
			t.Errorf("%q, %d, not %q", s, err, want)
		}
	}
	for name, w := range whole() {
		want, n := wantedText(w)
		e := api.OK
		if len(want) > api.MaxText || n > api.MaxTokens {
			want, e = "", api.ErrLimit
		}
		if s, err := Format(w); s != want || err != e {
			t.Errorf("%s: %q, %d, not %q, %d", name, s, err, want, e)
		}
	}
}

// longWords returns an expression of 225 bytes.
func longWords() api.Expr {
	e := anIn(strings.Repeat("n", 16))
	for i := range 12 {
		e.Words = append(e.Words, strings.Repeat("x", 14)+string(rune('a'+i)))
	}
	return e
}

// longText returns a valid wording whose text has so many bytes, at least 200 of them.
func longText(bytes int) api.Wording {
	w := api.Wording{Clauses: []api.Clause{anExclude(), aCover("a")}, Endorsements: []api.Endorsement{{Period: first, Remove: numbered(3)}}}
	missing := func() int {
		s, _ := wantedText(w)
		return bytes - len(s)
	}
	for e := &w.Endorsements[0]; missing() > 3000; {
		e.Clauses = append(e.Clauses, api.Clause{Kind: api.ClauseDefine, Name: "a", When: anOr(slices.Repeat([]api.Expr{longWords()}, 10)...)})
	}
	for c := &w.Clauses[0]; missing() > 300; {
		c.Unless = append(c.Unless, api.WriteBack{Name: "w", When: longWords()})
	}
	for missing() > 20 {
		w.Clauses = append(w.Clauses, aCover("a")) // 15 bytes
	}
	w.Clauses[0].Name += strings.Repeat("x", min(missing(), 15))
	w.Clauses[1].Name += strings.Repeat("a", missing())
	return w
}

func TestFormatOfLongTexts(t *testing.T) { // P8.2
	for bytes := 200; bytes < api.MaxText+20; bytes++ {
		if bytes == 700 {
			bytes = api.MaxText - 20
		}
		w := longText(bytes)
		want, n := wantedText(w)
		if len(want) != bytes || n > api.MaxTokens || !Valid(w) {
			t.Fatalf("%d bytes, %d tokens", len(want), n)
		}
		s, err := Format(w)
		switch {
		case bytes <= api.MaxText && (s != want || err != api.OK), bytes > api.MaxText && (s != "" || err != api.ErrLimit):
			t.Errorf("%d bytes: %d bytes, %d", bytes, len(s), err)
		}
		if err != api.OK {
			continue
		}
		if back, at, err := Parse(s); !Same(back, w) || at != 0 || err != api.OK { // P8.4
			t.Errorf("%d bytes: read as %v, %d, %d", bytes, back, at, err)
		}
	}
}

// manyTokens returns a valid wording whose text has 3990 tokens and some more.
func manyTokens(more int) api.Wording {
	short := anIn("a", "b", "c", "d", "e", "f", "g", "h", "i", "j", "k", "l", "m") // 27 tokens
	l := []api.Clause{{Kind: api.ClauseCover, Name: "a", When: anOr(slices.Repeat([]api.Expr{short}, 70)...)}, {Kind: api.ClauseExclude, Name: "b", When: anOr(slices.Repeat([]api.Expr{short}, 70)...)}}
	l[1].Unless = backs(6)                             // 4 each, and 2
	w := api.Wording{Clauses: append(l, covers(4)...)} // 5 each
	_, n := wantedText(w)
	w.Endorsements = []api.Endorsement{{Period: first, Remove: []string{"a"}}} // 10
	for n += 10; n+5 <= 3990+more; n += 5 {
		w.Clauses = append(w.Clauses, aCover("a"))
	}
	for e := &w.Clauses[2].When; n < 3990+more; n++ {
		*e = aNot(*e)
	}
	return w
}

func TestFormatOfManyTokens(t *testing.T) { // P8.2
	for more := range 20 {
		w := manyTokens(more)
		want, n := wantedText(w)
		if n != 3990+more || len(want) > api.MaxText || !Valid(w) {
			t.Fatalf("%d tokens, %d bytes", n, len(want))
		}
		s, err := Format(w)
		if n > 4000 {
			if s != "" || err != api.ErrLimit {
				t.Errorf("%d tokens: %d bytes, %d", n, len(s), err)
			}
			continue
		}
		if back, at, f := Parse(s); s != want || err != api.OK || !Same(back, w) || at != 0 || f != api.OK { // P8.4
			t.Errorf("%d tokens: %d bytes, %d, %d, %d", n, len(s), err, at, f)
		}
	}
}

func TestFormatOfGreatWordings(t *testing.T) { // P8.2
	great := anOr(slices.Repeat([]api.Expr{longWords()}, 299)...) // too long by itself
	some := anOr(slices.Repeat([]api.Expr{longWords()}, 69)...)   // nearly
	for i, e := range []api.Expr{great, some} {
		c := anExclude(slices.Repeat([]api.WriteBack{{Name: "w", When: e}}, 40)...)
		c.When = e
		l := slices.Repeat([]api.Clause{c}, 40)
		w := api.Wording{Clauses: l, Endorsements: []api.Endorsement{{Period: first, Remove: numbered(40), Clauses: l}}}
		if s, err := Format(w); !Valid(w) || s != "" || err != api.ErrLimit {
			t.Errorf("case %d: %d bytes, %d", i, len(s), err)
		}
	}
	cover := aCover("a")
	cover.When = great
	if s, err := Format(with(cover, aCover("b"))); s != "" || err != api.ErrLimit {
		t.Errorf("one: %d bytes, %d", len(s), err)
	}
	if s, err := Format(with(aCover("b"), anExclude(api.WriteBack{Name: "w", When: great}))); s != "" || err != api.ErrLimit {
		t.Errorf("one: %d bytes, %d", len(s), err)
	}
	short := anIn("a", "b", "c", "d", "e", "f", "g", "h", "i", "j", "k", "l", "m")
	cover.When = anOr(slices.Repeat([]api.Expr{short}, 143)...) // 4003 tokens in few bytes
	if s, err := Format(with(cover)); !Valid(with(cover)) || s != "" || err != api.ErrLimit {
		t.Errorf("many tokens: %d bytes, %d", len(s), err)
	}
}

func TestParse(t *testing.T) { // P8.3
	list := map[string]api.Wording{
		everyText: every(), strings.ReplaceAll(everyText, "\n", " "): every(), strings.ReplaceAll(everyText, " ", "\n\n"): every(), strings.ReplaceAll(everyText, " ", " # a comment; cover b: true;\n"): every(), "# x\n" + everyText + " # cover": every(),
		"": {}, " \n\n ": {}, "# cover a: true;": {}, "#": {},
		"cover a:true;cover a:true;": with(covers(2)...), " cover\na\n:\ntrue\n; ": with(aCover("a")), "cover a: (true);": with(aCover("a")), "cover a: ((true));": with(aCover("a")),
		"exclude x:true unless(w:true,w:true);": with(anExclude(backs(2)...)), "exclude x: (true) unless (w: (true));": with(anExclude(backs(1)...)),
		"exclude x: true unless (w: true unless (w: true), w: true);":                      with(anExclude(aBack("w", aBack("w")), aBack("w"))),
		"exclude x: true unless (w: true, w: true unless (w: true));":                      with(anExclude(aBack("w"), aBack("w", aBack("w")))),
		"exclude x: true unless (w: true unless (v: true unless (u: true), t: true));":     with(anExclude(aBack("w", aBack("v", aBack("u")), aBack("t")))),
		"exclude x: a in (b, c) unless (y: a in (d), z: e);":                               with(api.Clause{Kind: api.ClauseExclude, Name: "x", When: anIn("a", "b", "c"), Unless: []api.WriteBack{{Name: "y", When: anIn("a", "d")}, {Name: "z", When: aName("e")}}}),
		"limit a: 1 when x from 1 to 2;":                                                   with(api.Clause{Kind: api.ClauseLimit, Name: "a", When: aBetween("x", 1, 2), Amount: 1}),
		"limit a: 1073741824 when true; sublimit a: 1 when true;":                          with(aClause(api.ClauseLimit, "a", 1<<30), aClause(api.ClauseSublimit, "a", 1)),
		"coinsurance a: 1000000 when true; coinsurance a: 1 when true;":                    with(aClause(api.ClauseCoinsurance, "a", 1000000), aClause(api.ClauseCoinsurance, "a", 1)),
		"deductible a: 1073741824 when true; franchise b: 1073741824 when true;":           with(aClause(api.ClauseDeductible, "a", 1<<30), aClause(api.ClauseFranchise, "b", 1<<30)),
		"define true-1: true; cover cover-2: not not-3;":                                   with(aClause(api.ClauseDefine, "true-1", 0), api.Clause{Kind: api.ClauseCover, Name: "cover-2", When: aNot(aName("not-3"))}),
		"endorse @2000-01-01T00 to @2000-01-01T02: end;":                                   ends(api.Endorsement{Period: first}),
		"endorse @2031-01-01 to @2032-01-01: remove a; end;":                               ends(api.Endorsement{Period: api.Period{From: day2031, To: day2032}, Remove: []string{"a"}}),
		brief + "remove b,a;cover a:true;end;" + brief + "remove a;end;":                   ends(api.Endorsement{Period: first, Remove: []string{"b", "a"}, Clauses: covers(1)}, api.Endorsement{Period: first, Remove: []string{"a"}}),
		"cover a: true;" + brief + "cover a: true; exclude x: true; end;" + brief + "end;": {Clauses: covers(1), Endorsements: []api.Endorsement{{Period: first, Clauses: []api.Clause{aCover("a"), anExclude()}}, {Period: first}}},
		"cover all: true; exclude war: peril in (war) unless (medic: role in (medic)); endorse @2031-01-01 to @2032-01-01: remove war; end;": {
			Clauses:      []api.Clause{aCover("all"), {Kind: api.ClauseExclude, Name: "war", When: anIn("peril", "war"), Unless: []api.WriteBack{{Name: "medic", When: anIn("role", "medic")}}}},
			Endorsements: []api.Endorsement{{Period: api.Period{From: day2031, To: day2032}, Remove: []string{"war"}}},
		},
		strings.Repeat("cover a: true;", 40) + strings.Repeat(brief+strings.Repeat("cover a: true;", 40)+"end;", 12): {Clauses: covers(40), Endorsements: slices.Repeat([]api.Endorsement{{Period: first, Clauses: covers(40)}}, 12)},
		brief + "remove " + strings.Join(numbered(40), ",") + "; end;":                                               ends(api.Endorsement{Period: first, Remove: numbered(40)}),
		"exclude x: true" + strings.Repeat(" unless (w: true", 16) + strings.Repeat(")", 16) + ";":                   with(anExclude(nested(16, 0)...)),
		strings.Repeat("exclude x: true unless (w: true"+strings.Repeat(", w: true", 39)+");", 20):                   with(slices.Repeat([]api.Clause{anExclude(backs(40)...)}, 20)...),
		"exclude x: true unless (w: true unless (w: true" + strings.Repeat(", w: true", 38) + "));":                  with(anExclude(aBack("w", backs(39)...))),
		"cover a: " + strings.Repeat("(", 1000) + "true" + strings.Repeat(")", 1000) + ";":                           with(aCover("a")),
	}
	for s, want := range list {
		if w, at, err := Parse(s); !Same(w, want) || at != 0 || err != api.OK {
			t.Errorf("%.80q: %v, %d, %d", s, w, at, err)
		}
	}
}

// wrong is what a text with an error gives.
type wrong struct {
	at  int
	err api.Errno
}

// wrongTexts are texts that begin with a part that is right, with the error that follows it.
func wrongTexts() map[string]wrong {
	texts := map[string]wrong{}
	add := func(before string, err api.Errno, rests ...string) {
		for _, s := range rests {
			blanks := len(s) - len(strings.TrimLeft(s, " "))
			texts[before+s] = wrong{len(before) + blanks, err}
		}
	}
	add("", api.ErrSyntax, ";", ":", "a", "a: true;", "covers a: true;", "(cover a: true;)", "5", "-1", "@2000-01-01", "end;", "remove a;", "when", "unless", "true", "to", ",")
	add("cover", api.ErrSyntax, "", ";", ": true;")
	add("cover ", api.ErrSyntax, "cover: true;", "5: true;", ": true;", "; true;", "limit: true;", "(a): true;", "@2000-01-01: true;", "true: true;")
	add("cover a", api.ErrSyntax, "", ";", " true;", ", true;", " b: true;", " cover", "(x)")
	add("cover a:", api.ErrSyntax, "", ";", ":", ",", ")", "unless")
	add("cover a: ", api.ErrSyntax, "", "5 when true;", "and a;", "when true;", "unless (w: true);", ";", "@2000-01-01;")
	add("cover a: true", api.ErrSyntax, "", ":", ",", ")", " b;", " unless (w: true);", " when true;", " cover b: true;", " true;", " 5;")
	add("cover a: b ", api.ErrSyntax, "c;", "", "not c;", "(c);", ": c;")
	add("cover a: b and ", api.ErrSyntax, "", "or c;", "unless", ";")
	add("cover a: (b", api.ErrSyntax, "", ";", " c);", ", c);", " unless (w: true));")
	add("cover a: true;", api.ErrSyntax, ";", "b: true;", " true", "unless (w: true);", "end;", "remove a;")
	add("cover a: a in (x, ", api.ErrDuplicate, "x);", "x", "x unless")
	add("cover a: a from ", api.ErrRange, "1000000001 to 5;", "1000000001 5;")
	add("cover a: a from 2 to ", api.ErrRange, "1;", "1")
	add("cover a: ", api.ErrLimit, strings.Repeat("not ", 16)+"a;", strings.Repeat("not ", 16)+"a", strings.Repeat("not ", 16)+"a 5;", "a"+strings.Repeat(" or a", 299)+" unless")
	for _, s := range []string{"define", "cover", "condition", "average"} {
		add(s+" a: true", api.ErrSyntax, " unless (w: true);", " when true;", "")
		add(s+" a: ", api.ErrSyntax, "5 when true;", "5;")
	}
	for s, most := range map[string]int{"limit": 1 << 30, "deductible": 1 << 30, "franchise": 1 << 30, "coinsurance": 1000000, "sublimit": 1 << 30} {
		add(s+" a: ", api.ErrSyntax, "", "true;", "when true;", "a when true;", "(5) when true;", "@2000-01-01 when true;", "@2000-01-01T05 when true;", "; 5")
		add(s+" a: ", api.ErrRange, "0 when true;", "-1 when true;", strconv.Itoa(most+1)+" when true;", "0", "0;", "17592186044416 when true;", "-17592186044416 a", "0 true;")
		add(s+" a: 5", api.ErrSyntax, "", ";", ": true;", " true;", " unless (w: true);", " 5 when true;", " cover", " or 6 when true;")
		add(s+" a: "+strconv.Itoa(most)+" when", api.ErrSyntax, "", ";", ":", ", true;")
		add(s+" a: 1 when true", api.ErrSyntax, "", " unless (w: true);", " when true;", ":", ",")
	}
	add("exclude x: true", api.ErrSyntax, "", ":", " unles (w: true);", " (w: true);", ",")
	add("exclude x: true unless", api.ErrSyntax, "", ";", " w: true;", ")", " unless (w: true);")
	add("exclude x: true unless (", api.ErrSyntax, "", ")", "(w: true));", "5: true);", "true: true);", ", w: true);", "unless (w: true));", ": true);", "cover: true);")
	add("exclude x: true unless (w", api.ErrSyntax, "", ")", ");", " true);", ", v: true);", ";", " w: true);")
	add("exclude x: true unless (w: ", api.ErrSyntax, "", ");", ", v: true);", "unless (v: true));", "5 when true);", "cover);")
	add("exclude x: true unless (w: true", api.ErrSyntax, "", ";", " v: true);", ": true);", " when true);", " true);")
	add("exclude x: true unless (w: true, ", api.ErrSyntax, "", ");", ", v: true);", "5: true);", "true);", "unless (v: true));", "end: true);")
	add("exclude x: true unless (w: true)", api.ErrSyntax, "", ")", ");"[:1], ", v: true);", " unless (v: true);", " v: true;", ": true;", " and true;", " cover")
	add("exclude x: true unless (w: true unless (v: true)", api.ErrSyntax, "", ";", " unless (u: true));", ": true);", " u: true);", " and true);")
	add("exclude x: true unless (w: true unless (v: true))", api.ErrSyntax, "", ")", ", u: true);", " unless (u: true);")
	add("exclude x: true"+strings.Repeat(" unless (w: true", 16)+" ", api.ErrLimit, "unless", "unless (w: true", "unless;", "unless 5")
	add("exclude x: true"+strings.Repeat(" unless (w: true, v: true", 16)+" ", api.ErrLimit, "unless (")
	add("exclude x: true"+strings.Repeat(" unless (w: true", 16), api.ErrSyntax, "", ";", " when")
	add("exclude x: true"+strings.Repeat(" unless (w: true", 16)+strings.Repeat(")", 16), api.ErrSyntax, "", ")", ", v: true);", " unless (w: true);")
	forty := "exclude x: true unless (w: true" + strings.Repeat(", w: true", 39)
	add(forty+", ", api.ErrLimit, "w: true);", "v", "v 5", "v unless")
	add(forty+", ", api.ErrSyntax, "", "cover: true);", "5: true);", ");", ",")
	add(forty+" unless (", api.ErrLimit, "v: true));", "v")
	add(forty+" unless (", api.ErrSyntax, "", "to", ")", "unless")
	add("exclude x: true unless (w: true unless (w: true"+strings.Repeat(", w: true", 37)+"), w: true, ", api.ErrLimit, "w: true);", "w")
	add(forty+");"+forty+", ", api.ErrLimit, "w", "v: true);") // each clause has its own
	add(forty+");"+brief+forty+", ", api.ErrLimit, "w", "v: true); end;")
	add("endorse", api.ErrSyntax, "", ";", ":", "; @2000-01-01")
	add("endorse ", api.ErrSyntax, "a", "5 to 6: end;", "to @2000-01-01: end;", "from @2000-01-01 to @2000-01-02: end;", "-5")
	add(oneEnds, api.ErrSyntax, "", ":", " end;", " @2000-01-02: end;", ", @2000-01-02: end;", " from @2000-01-02: end;", ";")
	add(oneEnds+" to ", api.ErrSyntax, "", "5: end;", ": end;", "to", "end;", "a", "8: end;")
	add("endorse @2000-01-01T02 to ", api.ErrRange, "@2000-01-01T02: end;", "@2000-01-01T01: end;", "@2000-01-01: end;", "@2000-01-01", "@2000-01-01 5")
	add("endorse @2099-12-31T23 to ", api.ErrRange, "@2099-12-31T23: end;", "@2000-01-01")
	add(oneEnds+" to ", api.ErrRange, "@2000-01-01: end;", "@2000-01-01T00: end;")
	add(brief[:len(brief)-1], api.ErrSyntax, "", ";", " end;", " remove a; end;", " to @2000-01-03: end;", ",")
	add(brief, api.ErrSyntax, "", ";", "a", "true", "5", "remov a;", oneEnds, "unless", "; end;", ": end;")
	add(brief+"remove", api.ErrSyntax, "", ";", ": a;", "(a);", ", a;")
	add(brief+"remove ", api.ErrSyntax, "", "end;", "5; end;", "cover a: true; end;", "remove;", "; end;")
	add(brief+"remove a", api.ErrSyntax, "", ":", " b; end;", " end;", " and b;", ")")
	add(brief+"remove a, ", api.ErrSyntax, "", "; end;", ", b; end;", "5; end;", "end;", "to; end;")
	add(brief+"remove a, ", api.ErrDuplicate, "a; end;", "a", "a 5")
	add(brief+"remove c, a, b, ", api.ErrDuplicate, "a; end;", "c", "b, b; end;", "b, 5; end;")
	add(brief+"remove a;", api.ErrSyntax, "", ";", "remove b; end;", oneEnds, "a", ", b; end;")
	fullList := brief + "remove " + strings.Join(numbered(40), ",") + ","
	add(fullList, api.ErrLimit, "w; end;", "w", "w40,w0;")
	add(fullList, api.ErrDuplicate, "w0; end;", "w39", "w7 7")
	add(fullList, api.ErrSyntax, "", "; end;", "5", "end;", ",")
	add(brief+"cover a: true;", api.ErrSyntax, "", "remove a; end;", ";", "a", oneEnds+" to", "; end;")
	add(brief+"cover a: true", api.ErrSyntax, " end;", "", ":")
	add(brief+"end", api.ErrSyntax, "", ":", ", ;", ")")
	add(brief+"end ", api.ErrSyntax, "end;", "endorse", "cover a: true;", "a;")
	add(brief+"end;", api.ErrSyntax, ";", "end;", "cover a: true;", "remove a;", "a", "5", "exclude x: true;", "unless")
	add(brief+"remove a; cover a: true; end; ", api.ErrSyntax, "cover a: true;", "limit", "remove b;")
	many := strings.Repeat("cover a: true;", 40)
	add(many, api.ErrLimit, "cover a: true;", "cover", "limit", "exclude 5", "define;", "average", "sublimit", "condition", "deductible", "franchise", "coinsurance")
	add(many, api.ErrSyntax, "a", ";", "end;", "remove a;", "covers")
	add(brief+many, api.ErrLimit, "cover a: true; end;", "limit", "sublimit 5")
	add(brief+many, api.ErrSyntax, "", "a", "remove a;", oneEnds)
	add(many+brief+"remove a;"+many, api.ErrLimit, "cover", "average a: true; end;")
	add(brief+many+"end;"+brief+many, api.ErrLimit, "cover")
	add(strings.Repeat(brief+"end;", 12), api.ErrLimit, "endorse", brief+"end;", "endorse 5", "endorse;")
	add(strings.Repeat(brief+"end;", 12), api.ErrSyntax, "end;", "cover a: true;", ";", "a")
	add(many+strings.Repeat(brief+"remove a; cover a: true; end;", 12), api.ErrLimit, "endorse")
	return texts
}

func TestParseErrors(t *testing.T) { // P8.3
	texts := wrongTexts()
	maps.Copy(texts, map[string]wrong{ // the errors of the tokens come first
		"cover all: true": {15, api.ErrSyntax}, "cover": {5, api.ErrSyntax}, "cover  ": {7, api.ErrSyntax}, "cover # x": {9, api.ErrSyntax},
		"a a a 07": {6, api.ErrSyntax}, "; cover A": {8, api.ErrSyntax}, "cover cover b-;": {12, api.ErrName}, "a @2000-13-01": {2, api.ErrRange}, "a @2000": {2, api.ErrSyntax}, "limit a: 17592186044417 when true;": {9, api.ErrRange}, "limit a a: 17592186044417": {11, api.ErrRange}, "cover a: true;\t": {14, api.ErrSyntax},
		strings.Repeat("a ", 4001): {8000, api.ErrLimit}, strings.Repeat("a ", 4000): {0, api.ErrSyntax}, "a" + strings.Repeat(" ", api.MaxText): {0, api.ErrLimit}, strings.Repeat(" ", api.MaxText+1): {0, api.ErrLimit}, strings.Repeat(" ", api.MaxText-1) + "a": {api.MaxText - 1, api.ErrSyntax},
		"cover a: " + strings.Repeat("(", 3997): {9 + 3997, api.ErrSyntax}, "exclude x: true " + strings.Repeat("unless (", 1000): {24, api.ErrSyntax},
	})
	for s, x := range texts {
		if w, at, err := Parse(s); !Same(w, api.Wording{}) || at != x.at || err != x.err {
			t.Errorf("%q: %v, %d, %d, not %d, %d", s[max(0, len(s)-80):], w, at, err, x.at, x.err)
		}
		if at, err := judged(s); at != x.at || err != x.err {
			t.Errorf("%q: judged as %d, %d, not %d, %d", s[max(0, len(s)-80):], at, err, x.at, x.err)
		}
	}
}

// judge is a machine that finds the first error of a text without building a wording. It remembers how deep it is within write-backs.
type judge struct {
	state                              string
	within                             bool // an endorsement
	exclude                            bool // the clause may have write-backs
	clauses, endorsements              int
	depth, backs, from, greatestAmount int
	removed                            []string
}

// amountOf returns the greatest amount of the clauses that begin with a word, or 0 if they have no amount.
func amountOf(word string) (int, bool) {
	list := map[string]int{"define": 0, "cover": 0, "exclude": 0, "condition": 0, "average": 0, "limit": 1 << 30, "deductible": 1 << 30, "franchise": 1 << 30, "sublimit": 1 << 30, "coinsurance": 1000000}
	n, ok := list[word]
	return n, ok
}

// judged returns the error of Parse that P8.3 wants.
func judged(text string) (int, api.Errno) {
	l, at, err := lexer.Scan(text)
	if err != api.OK {
		return at, err
	}
	offset := func(i int) int {
		if i < len(l) {
			return l[i].At
		}
		return len(text)
	}
	j := judge{state: "first"}
	for i := 0; i < len(l) || j.state != "clause" && j.state != "first" && j.state != "next" || j.within; i++ {
		t := api.Token{}
		if i < len(l) {
			t = l[i]
		}
		if j.state == "expression" {
			_, next, bad, err := syntax.Tokens(l, i)
			if err != api.OK {
				return offset(bad), err
			}
			i, j.state = next-1, "after"
			continue
		}
		if err := j.step(t); err != api.OK {
			return offset(i), err
		}
	}
	return 0, api.OK
}

// step takes a token that is not in an expression.
func (j *judge) step(t api.Token) api.Errno {
	word, mark := "", ""
	switch t.Kind {
	case api.TokenName:
		word = t.Text
	case api.TokenMark:
		mark = t.Text
	}
	name := t.Kind == api.TokenName && !lexer.Reserved(t.Text)
	most, begins := amountOf(word)
	switch at := j.state; {
	case (at == "clause" || at == "first") && begins:
		if j.clauses == 40 {
			return api.ErrLimit
		}
		j.clauses++
		j.exclude, j.greatestAmount, j.depth, j.backs = word == "exclude", most, 0, 0
		j.state = "name"
	case at == "first" && j.within && word == "remove":
		j.removed, j.state = nil, "removed"
	case (at == "clause" || at == "first") && j.within && word == "end":
		j.state = "end"
	case (at == "clause" || at == "first") && !j.within && word == "endorse", at == "next" && word == "endorse":
		if j.endorsements == 12 {
			return api.ErrLimit
		}
		j.endorsements++
		j.state = "from"
	case at == "name" && name:
		j.state = "colon"
	case at == "colon" && mark == ":" && j.greatestAmount > 0:
		j.state = "amount"
	case at == "colon" && mark == ":", at == "when" && word == "when":
		j.state = "expression"
	case at == "amount" && t.Kind == api.TokenNumber:
		if t.Number < 1 || t.Number > j.greatestAmount {
			return api.ErrRange
		}
		j.state = "when"
	case (at == "after" || at == "closed") && j.depth == 0 && mark == ";":
		j.state = "clause"
	case at == "after" && j.exclude && word == "unless":
		if j.depth == 16 {
			return api.ErrLimit
		}
		j.depth++
		j.state = "open"
	case at == "open" && mark == "(", (at == "after" || at == "closed") && j.depth > 0 && mark == ",":
		j.state = "back"
	case (at == "after" || at == "closed") && j.depth > 0 && mark == ")":
		j.depth--
		j.state = "closed"
	case at == "back" && name:
		if j.backs == 40 {
			return api.ErrLimit
		}
		j.backs++
		j.state = "colon"
	case at == "from" && t.Kind == api.TokenHour:
		j.from = t.Number
		j.state = "to"
	case at == "to" && word == "to":
		j.state = "until"
	case at == "until" && t.Kind == api.TokenHour:
		if t.Number <= j.from {
			return api.ErrRange
		}
		j.state = "begin"
	case at == "begin" && mark == ":":
		j.within, j.clauses, j.state = true, 0, "first"
	case at == "removed" && name:
		if slices.Contains(j.removed, word) {
			return api.ErrDuplicate
		}
		if len(j.removed) == 40 {
			return api.ErrLimit
		}
		j.removed, j.state = append(j.removed, word), "more"
	case at == "more" && mark == ",":
		j.state = "removed"
	case at == "more" && mark == ";":
		j.state = "clause"
	case at == "end" && mark == ";":
		j.within, j.state = false, "next"
	default:
		return api.ErrSyntax
	}
	return api.OK
}

// compare holds Parse against the judge, and what it has read against the tokens of the text.
func compare(t *testing.T, text string) api.Errno {
	t.Helper()
	at, err := judged(text)
	w, a, e := Parse(text)
	if a != at || e != err {
		t.Fatalf("%q: %d, %d, not %d, %d", text, a, e, at, err)
	}
	if err != api.OK {
		if !Same(w, api.Wording{}) {
			t.Fatalf("%q: %v with an error", text, w)
		}
		return err
	}
	if !wanted(w) {
		t.Fatalf("%q: %v", text, w)
	}
	var tokens []api.Token
	for _, l := range lines(w) {
		tokens = append(tokens, l...)
	}
	plain := func(l []api.Token) []api.Token { // an expression may have more parentheses than it needs
		return slices.DeleteFunc(l, func(t api.Token) bool { return t.Text == "(" || t.Text == ")" })
	}
	if !slices.Equal(plain(tokens), plain(scanned(text))) {
		t.Fatalf("%q: %v", text, w)
	}
	return api.OK
}

// alphabet are tokens, and errors of tokens, as texts.
func alphabet() []string {
	return []string{"define", "cover", "exclude", "condition", "limit", "coinsurance", "average", "sublimit", "unless", "when", "endorse", "to", "remove", "end", "true", "and", "in", "from", "a", "w", "0", "1", "1000001", "1073741825", "@2000-01-01", "@2031-01-01", ";", ":", ",", "(", ")", "07"}
}

func TestAfterEachPrefix(t *testing.T) { // P8.3: any two tokens after each beginning of a text
	text := "cover a: true; exclude x: b unless (w: true unless (v: a in (c)), u: b); limit t: 5 when a; endorse @2000-01-01 to @2000-01-02: remove a, t; coinsurance w: 1 when b; end; endorse @2000-01-01 to @2000-01-01T05: cover x: a; end;"
	l, _, _ := lexer.Scan(text)
	seen := map[api.Errno]int{}
	for i := range len(l) + 1 {
		before := text
		if i < len(l) {
			before = text[:l[i].At]
		}
		for _, a := range alphabet() {
			seen[compare(t, before+" "+a)]++
			for _, b := range alphabet() {
				seen[compare(t, before+" "+a+"\n"+b)]++
			}
		}
	}
	for _, e := range []api.Errno{api.OK, api.ErrSyntax, api.ErrRange, api.ErrDuplicate} {
		if seen[e] < 10 {
			t.Errorf("error %d: %d times", e, seen[e])
		}
	}
}

func TestChangedTexts(t *testing.T) { // P8.3
	r := rand.New(rand.NewSource(3))
	all := append(alphabet(), "or", "not", "w0", "w1", "deductible", "franchise", "-1", "1073741824", "@2099-12-31T23", "unless (w: true)", "unless (w: true, v: a)", "cover a: true;", "limit a: 5 when true;", oneEnds+" to @2000-01-01T05:", "end;", "remove w0;", "# x\n", "", "not true", strings.Repeat("not ", 15), strings.Repeat("cover a: true;", 38), strings.Repeat("unless (w: true", 15), strings.Repeat("w: true, ", 38), strings.Join(numbered(39), ", ")+",", strings.Repeat(oneEnds+" to @2000-01-03: end;", 11))
	seen := map[api.Errno]int{}
	for range 20000 {
		s, _ := Format(random(r))
		var parts []string
		for _, x := range scanned(s) {
			one, _ := lexer.Join([]api.Token{x})
			parts = append(parts, one)
		}
		for range r.Intn(4) {
			i, x := r.Intn(len(parts)+1), all[r.Intn(len(all))]
			switch r.Intn(4) {
			case 0:
				parts = slices.Delete(parts, max(i-1, 0), i)
			case 1:
				if i < len(parts) {
					parts[i] = x
				}
			default:
				parts = slices.Insert(parts, i, x)
			}
		}
		seen[compare(t, strings.Join(parts, " "))]++
	}
	for _, e := range []api.Errno{api.OK, api.ErrSyntax, api.ErrRange, api.ErrDuplicate, api.ErrLimit} {
		if seen[e] < 10 {
			t.Errorf("error %d: %d times", e, seen[e])
		}
	}
}

func TestWrittenIsRead(t *testing.T) { // P8.4
	r := rand.New(rand.NewSource(4))
	for range 20000 {
		w := random(r)
		want, n := wantedText(w)
		s, err := Format(w)
		if len(want) > api.MaxText || n > api.MaxTokens {
			t.Fatal("a random wording is too long")
		}
		back, at, e := Parse(s)
		if s != want || err != api.OK || !Same(back, w) || at != 0 || e != api.OK {
			t.Fatalf("%q, %d: %v, %d, %d", s, err, back, at, e)
		}
	}
	for name, w := range whole() {
		s, err := Format(w)
		if err == api.ErrLimit {
			continue
		}
		if back, _, e := Parse(s); err != api.OK || !Same(back, w) || e != api.OK {
			t.Errorf("%s: %q, %d, %d", name, s, err, e)
		}
	}
}

func TestHours(t *testing.T) { // P8.2, P8.3: all forms of hours
	for _, from := range []int{0, 1, 23, 24, day2031 - 1, day2031, api.MaxHour - 24, api.MaxHour - 1} {
		for _, to := range []int{0, 1, 23, 24, day2031 - 1, day2031, lastDay, api.MaxHour} {
			a, _ := calendar.Format(from)
			b, _ := calendar.Format(to)
			text := "endorse @" + a + " to @" + b + ":\nend;\n"
			w := ends(api.Endorsement{Period: api.Period{From: from, To: to}})
			s, err := Format(w)
			back, at, e := Parse(text)
			switch {
			case from < to && (s != text || err != api.OK || !Same(back, w) || at != 0 || e != api.OK):
				t.Errorf("%d, %d: %q, %d; %v, %d, %d", from, to, s, err, back, at, e)
			case from >= to && (s != "" || err != api.ErrSyntax || !Same(back, api.Wording{}) || at != strings.LastIndex(text, "@") || e != api.ErrRange):
				t.Errorf("%d, %d: %q, %d; %v, %d, %d", from, to, s, err, back, at, e)
			}
		}
	}
}

func TestArguments(t *testing.T) { // R3
	w := every()
	Valid(w)
	Same(w, w)
	Find(w.Clauses, "top")
	Format(w)
	if !Same(w, every()) {
		t.Errorf("%v", w)
	}
	a, _, _ := Parse(everyText)
	b, _, _ := Parse(everyText)
	a.Clauses[0].When.Words[0], a.Clauses[3].Unless[0].Name, a.Clauses[3].Unless[1].Unless[0].Name = "z", "z", "z"
	a.Clauses[1].Name, a.Endorsements[0].Remove[0], a.Endorsements[0].Clauses[0].Name, a.Endorsements[1].Period = "z", "z", "z", first
	if !Same(b, w) {
		t.Errorf("%v", b)
	}
	for i, c := range b.Clauses { // no two slices of a result share memory
		b.Clauses[i].Unless = append(c.Unless, aBack("more"))
	}
	b.Endorsements[0].Clauses = append(b.Endorsements[0].Clauses, aCover("more"))
	b.Clauses = append(b.Clauses, aCover("more"))
	if b.Endorsements[0].Clauses[0].Name != "more" || b.Clauses[0].Name != "wet" || b.Clauses[3].Unless[0].Name != "medic" || b.Endorsements[0].Clauses[1].Unless[0].Name != "w" {
		t.Errorf("%v", b)
	}
}
