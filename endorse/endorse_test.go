package endorse

import (
	"maps"
	"math"
	"math/rand"
	"slices"
	"strconv"
	"strings"
	"testing"

	"treaty/api"
	"treaty/wording"
)

const (
	lastHour = 876599
	end      = lastHour + 1 // where the last period ends
)

func aTrue() api.Expr { return api.Expr{Op: api.OpTrue} }

func aName(s string) api.Expr { return api.Expr{Op: api.OpName, Name: s} }

func anIn(words ...string) api.Expr { return api.Expr{Op: api.OpIn, Name: "peril", Words: words} }

func aBetween(low, high int) api.Expr {
	return api.Expr{Op: api.OpBetween, Name: "age", Low: low, High: high}
}

func anAnd(l ...api.Expr) api.Expr { return api.Expr{Op: api.OpAnd, Args: l} }

func aCover(name string) api.Clause {
	return api.Clause{Kind: api.ClauseCover, Name: name, When: aTrue()}
}

func aCoverWhen(name string, when api.Expr) api.Clause {
	return api.Clause{Kind: api.ClauseCover, Name: name, When: when}
}

func aLimit(name string, amount int) api.Clause {
	return api.Clause{Kind: api.ClauseLimit, Name: name, When: aTrue(), Amount: amount}
}

func anExclude(name string, l ...api.WriteBack) api.Clause {
	return api.Clause{Kind: api.ClauseExclude, Name: name, When: aTrue(), Unless: l}
}

func aBack(name string, when api.Expr, l ...api.WriteBack) api.WriteBack {
	return api.WriteBack{Name: name, When: when, Unless: l}
}

// covers returns a cover for each of the names in a text.
func covers(names string) []api.Clause {
	var l []api.Clause
	for _, s := range strings.Fields(names) {
		l = append(l, aCover(s))
	}
	return l
}

// numbered returns the names from s and the number from to s and the number to, without the last one.
func numbered(s string, from, to int) string {
	var l []string
	for i := from; i < to; i++ {
		l = append(l, s+strconv.Itoa(i))
	}
	return strings.Join(l, " ")
}

// change returns an endorsement that removes and adds covers with the names in two texts.
func change(from, to int, remove, add string) api.Endorsement {
	return api.Endorsement{Period: api.Period{From: from, To: to}, Remove: strings.Fields(remove), Clauses: covers(add)}
}

// of returns a wording of covers.
func of(names string, l ...api.Endorsement) api.Wording {
	return api.Wording{Clauses: covers(names), Endorsements: l}
}

// names returns a text of the names of clauses.
func names(l []api.Clause) string {
	var list []string
	for _, c := range l {
		list = append(list, c.Name)
	}
	return strings.Join(list, " ")
}

// alike reports whether two lists have equal clauses in the same order.
func alike(a, b []api.Clause) bool {
	return wording.Same(api.Wording{Clauses: a}, api.Wording{Clauses: b})
}

// every returns a wording whose clauses have all that clauses may have.
func every() api.Wording {
	return api.Wording{
		Clauses: []api.Clause{
			{Kind: api.ClauseDefine, Name: "wet", When: anIn("flood", "storm")},
			aCoverWhen("all", api.Expr{Op: api.OpOr, Args: []api.Expr{aName("wet"), anAnd(anIn("fire"), aBetween(1, 9)), {Op: api.OpNot, Args: []api.Expr{anAnd(anIn("hail", "snow"), aName("b"))}}}}),
			anExclude("war", aBack("medic", anIn("war"), aBack("short", anAnd(aName("a"), anIn("x", "y")), aBack("deep", aBetween(-1, 1)))), aBack("other", aTrue())),
			{Kind: api.ClauseCondition, Name: "alarm", When: aName("alarm")},
			aLimit("top", 500),
			{Kind: api.ClauseCoinsurance, Name: "part", When: aTrue(), Amount: api.Million},
			{Kind: api.ClauseAverage, Name: "under", When: aTrue()},
		},
		Endorsements: []api.Endorsement{
			{Period: api.Period{From: 10, To: 20}, Remove: []string{"top", "wet"}, Clauses: []api.Clause{aLimit("top", 700), anExclude("arson", aBack("child", anIn("child", "baby")))}},
			{Period: api.Period{From: 15, To: lastHour}, Clauses: []api.Clause{aCoverWhen("more", anAnd(aName("wet"), anIn("q")))}},
		},
	}
}

// copiedWording returns w in new memory.
func copiedWording(w api.Wording) api.Wording {
	back := api.Wording{Clauses: otherClauses(w.Clauses)}
	for _, e := range w.Endorsements {
		back.Endorsements = append(back.Endorsements, api.Endorsement{Period: e.Period, Remove: append([]string{}, e.Remove...), Clauses: otherClauses(e.Clauses)})
	}
	return back
}

func otherClauses(l []api.Clause) []api.Clause {
	list := make([]api.Clause, len(l))
	for i, c := range l {
		list[i] = api.Clause{Kind: c.Kind, Name: c.Name, When: otherExpr(c.When), Unless: otherBacks(c.Unless), Amount: c.Amount}
	}
	return list
}

func otherBacks(l []api.WriteBack) []api.WriteBack {
	list := make([]api.WriteBack, len(l))
	for i, b := range l {
		list[i] = api.WriteBack{Name: b.Name, When: otherExpr(b.When), Unless: otherBacks(b.Unless)}
	}
	return list
}

func otherExpr(e api.Expr) api.Expr {
	back := api.Expr{Op: e.Op, Name: e.Name, Low: e.Low, High: e.High, Words: make([]string, len(e.Words)), Args: make([]api.Expr, len(e.Args))}
	copy(back.Words, e.Words)
	for i, a := range e.Args {
		back.Args[i] = otherExpr(a)
	}
	return back
}

// spoil changes everything that can be reached from clauses, also beyond the ends of the lists.
func spoil(l []api.Clause) {
	for i := range l {
		spoilExpr(&l[i].When)
		spoilBacks(l[i].Unless)
		l[i].Kind, l[i].Name, l[i].Amount, l[i].Unless = -1, "spoilt", -1, nil
	}
	clear(l[len(l):cap(l)])
}

func spoilBacks(l []api.WriteBack) {
	for i := range l {
		spoilExpr(&l[i].When)
		spoilBacks(l[i].Unless)
		l[i].Name, l[i].Unless = "spoilt", nil
	}
	clear(l[len(l):cap(l)])
}

func spoilExpr(e *api.Expr) {
	for i := range e.Args {
		spoilExpr(&e.Args[i])
	}
	for i := range e.Words {
		e.Words[i] = "spoilt"
	}
	clear(e.Args[len(e.Args):cap(e.Args)])
	clear(e.Words[len(e.Words):cap(e.Words)])
	*e = api.Expr{Op: -1}
}

// wanted is InForce as P9.1 says it: each clause that is added gets a number, and the number under which a name is in force is remembered.
func wanted(w api.Wording, hour int) ([]api.Clause, api.Errno) {
	switch {
	case !wording.Valid(w):
		return nil, api.ErrSyntax
	case hour < 0 || hour > lastHour:
		return nil, api.ErrRange
	}
	var added []api.Clause
	number := map[string]int{}
	add := func(l []api.Clause) bool {
		for _, c := range l {
			if _, ok := number[c.Name]; ok {
				return false
			}
			number[c.Name] = len(added)
			added = append(added, c)
		}
		return true
	}
	if !add(w.Clauses) {
		return nil, api.ErrDuplicate
	}
	for _, e := range w.Endorsements {
		if hour < e.Period.From || hour >= e.Period.To {
			continue
		}
		for _, s := range e.Remove {
			if _, ok := number[s]; !ok {
				return nil, api.ErrUnknown
			}
			delete(number, s)
		}
		if !add(e.Clauses) {
			return nil, api.ErrDuplicate
		}
		if len(number) > 100 {
			return nil, api.ErrLimit
		}
	}
	var l []api.Clause
	for _, i := range slices.Sorted(maps.Values(number)) {
		l = append(l, added[i])
	}
	return l, api.OK
}

func TestInForce(t *testing.T) { // P9.1
	for i, x := range []struct {
		w    api.Wording
		want map[int]string
	}{
		{of("a", change(10, 20, "a", "b")), map[int]string{0: "a", 9: "a", 10: "b", 19: "b", 20: "a", lastHour: "a"}}, // the chapter's
		{of(""), map[int]string{0: "", 5: "", lastHour: ""}},
		{of("c a b"), map[int]string{0: "c a b", 5: "c a b", lastHour: "c a b"}},
		{of("", change(0, 1, "", "a")), map[int]string{0: "a", 1: "", lastHour: ""}},
		{of("a", change(lastHour-1, lastHour, "", "b")), map[int]string{0: "a", lastHour - 2: "a", lastHour - 1: "a b", lastHour: "a"}},
		{of("a", change(0, lastHour, "a", "")), map[int]string{0: "", 5: "", lastHour - 1: "", lastHour: "a"}},
		{of("a b c d", change(0, 5, "a", "")), map[int]string{0: "b c d", 5: "a b c d"}},
		{of("a b c d", change(0, 5, "b", "")), map[int]string{0: "a c d"}},
		{of("a b c d", change(0, 5, "d", "")), map[int]string{0: "a b c"}},
		{of("a b c d", change(0, 5, "d a", "")), map[int]string{0: "b c"}},
		{of("a b c d", change(0, 5, "b c", "")), map[int]string{0: "a d"}},
		{of("a b c d", change(0, 5, "c b d a", "")), map[int]string{0: ""}},
		{of("a b c d", change(0, 5, "c b d a", "e")), map[int]string{0: "e"}},
		{of("a b c d", change(0, 5, "", "z y x")), map[int]string{0: "a b c d z y x"}},
		{of("a b c d", change(0, 5, "b", "b")), map[int]string{0: "a c d b"}}, // it was removed before it is added
		{of("a b c d", change(0, 5, "c a", "a e c")), map[int]string{0: "b d a e c"}},
		{of("a", change(0, 5, "a", "b"), change(0, 5, "b", "c"), change(0, 5, "c", "a")), map[int]string{0: "a", 4: "a", 5: "a"}}, // one after the other
		{of("a", change(0, 9, "a", "b"), change(3, 6, "b", "c d"), change(5, 6, "c", "e")), map[int]string{0: "b", 2: "b", 3: "c d", 4: "c d", 5: "d e", 6: "b", 9: "a"}},
		{of("a", change(20, 30, "", "b"), change(0, 10, "", "c"), change(5, 25, "", "d")), map[int]string{0: "a c", 4: "a c", 5: "a c d", 9: "a c d", 10: "a d", 19: "a d", 20: "a b d", 24: "a b d", 25: "a b", 29: "a b", 30: "a"}},
		{of("a", change(0, 5, "", "b"), change(5, 10, "", "b"), change(10, 15, "a", "")), map[int]string{0: "a b", 4: "a b", 5: "a b", 9: "a b", 10: "", 14: "", 15: "a"}},
		{of("a", change(0, 5, "", ""), change(0, 5, "", "")), map[int]string{0: "a"}},
		{of("a b", change(0, 5, "a", ""), change(0, 5, "", "a")), map[int]string{0: "b a", 5: "a b"}},
	} {
		for hour, want := range x.want {
			if l, err := InForce(x.w, hour); names(l) != want || err != api.OK {
				t.Errorf("case %d, hour %d: %q, %d, not %q", i, hour, names(l), err, want)
			}
		}
	}
}

func TestInForceOfAllFields(t *testing.T) { // P9.1: the clauses are those of the wording in all fields
	w := every()
	c := w.Clauses
	for hour, want := range map[int][]api.Clause{
		0: c, 9: c, lastHour: c,
		10: {c[1], c[2], c[3], c[5], c[6], w.Endorsements[0].Clauses[0], w.Endorsements[0].Clauses[1]},
		19: {c[1], c[2], c[3], c[5], c[6], w.Endorsements[0].Clauses[0], w.Endorsements[0].Clauses[1], w.Endorsements[1].Clauses[0]},
		20: {c[0], c[1], c[2], c[3], c[4], c[5], c[6], w.Endorsements[1].Clauses[0]},
	} {
		if l, err := InForce(w, hour); !alike(l, want) || err != api.OK {
			t.Errorf("hour %d: %v, %d", hour, l, err)
		}
	}
}

func TestInForceErrors(t *testing.T) { // P9.1
	invalid, twice := of("a A", change(0, 5, "", "")), of("a b a", change(0, 5, "x", "b"))
	for i, x := range []struct {
		w    api.Wording
		hour int
		want api.Errno
	}{
		{invalid, 0, api.ErrSyntax}, {invalid, -1, api.ErrSyntax}, {invalid, end, api.ErrSyntax}, {of("a a", slices.Repeat([]api.Endorsement{change(0, 5, "x", "")}, 13)...), 0, api.ErrSyntax}, {of("a a", change(0, end, "x", "")), 0, api.ErrSyntax}, {of("a", change(5, 5, "", "")), 0, api.ErrSyntax}, {of("a", change(0, 5, "a a", "")), 0, api.ErrSyntax}, {of("a", change(0, 5, "A", "")), 9, api.ErrSyntax}, {of("a", change(0, 5, "", "a to")), 9, api.ErrSyntax},
		{of(numbered("a", 0, 41)), 0, api.ErrSyntax}, {of("a", change(0, 5, "", numbered("b", 0, 41))), 0, api.ErrSyntax},
		{of("a"), -1, api.ErrRange}, {of("a"), end, api.ErrRange}, {of(""), math.MinInt, api.ErrRange}, {of(""), math.MaxInt, api.ErrRange}, {twice, -1, api.ErrRange}, {twice, end, api.ErrRange},
		{twice, 0, api.ErrDuplicate}, {twice, 5, api.ErrDuplicate}, {twice, lastHour, api.ErrDuplicate}, {of("a a"), 0, api.ErrDuplicate}, {of("a b c b"), 0, api.ErrDuplicate}, {of("a a", change(0, 5, "a", "")), 0, api.ErrDuplicate}, {of("a a", change(0, 5, "b", "")), 0, api.ErrDuplicate},
		{api.Wording{Clauses: []api.Clause{aCover("a"), aLimit("a", 5)}}, 0, api.ErrDuplicate}, // whatever the clauses are
		{of("a", change(0, 5, "b", "")), 0, api.ErrUnknown}, {of("a", change(0, 5, "b", "")), 4, api.ErrUnknown}, {of("", change(0, 5, "b", "")), 0, api.ErrUnknown}, {of("a c", change(0, 5, "a b c", "")), 0, api.ErrUnknown}, {of("a", change(0, 5, "a b", "")), 0, api.ErrUnknown}, {of("a", change(0, 5, "b", "b")), 0, api.ErrUnknown}, {of("a", change(0, 5, "b", "a")), 0, api.ErrUnknown}, {of("a", change(0, 5, "b", "c c")), 0, api.ErrUnknown},
		{of("a", change(0, 5, "a", ""), change(0, 5, "a", "")), 0, api.ErrUnknown}, {of("a", change(0, 5, "", ""), change(0, 5, "b", ""), change(0, 5, "", "b")), 0, api.ErrUnknown}, {of("a", change(4, 5, "b", ""), change(0, 5, "", "a")), 4, api.ErrUnknown},
		{of("a", change(0, 5, "", "a")), 0, api.ErrDuplicate}, {of("a", change(0, 5, "", "a")), 4, api.ErrDuplicate}, {of("", change(0, 5, "", "b b")), 0, api.ErrDuplicate}, {of("a", change(0, 5, "a", "b c b")), 0, api.ErrDuplicate}, {of("a b", change(0, 5, "a", "a b")), 0, api.ErrDuplicate}, {of("a", change(0, 5, "a", "a a")), 0, api.ErrDuplicate},
		{of("a", change(0, 5, "", "b"), change(4, 9, "", "b")), 4, api.ErrDuplicate}, {of("a", change(0, 5, "", "a"), change(0, 5, "b", "")), 0, api.ErrDuplicate}, {of("a", change(0, 5, "", "a"), change(0, 5, "a", "")), 0, api.ErrDuplicate}, {of("a b c", change(0, 5, "b", "d"), change(0, 5, "", "e d")), 0, api.ErrDuplicate},
		{of("a", change(0, 5, "b", "")), 5, api.OK}, {of("a", change(1, 5, "b", "")), 0, api.OK}, {of("a", change(0, 5, "", "a")), 5, api.OK}, {of("a", change(1, 5, "", "b b")), 0, api.OK}, {of("a", change(0, 5, "", "b"), change(5, 9, "", "b")), 4, api.OK}, {of("a", change(0, 5, "", "b"), change(5, 9, "", "b")), 5, api.OK}, {of("a", change(0, 5, "", "b"), change(0, 5, "b", "b")), 0, api.OK},
		{of(""), 0, api.OK}, {of(""), lastHour, api.OK}, {of("a", change(0, lastHour, "b", "")), lastHour, api.OK},
	} {
		l, err := InForce(x.w, x.hour)
		if err != x.want || err != api.OK && len(l) > 0 {
			t.Errorf("case %d: %q, %d, not %d", i, names(l), err, x.want)
		}
		if _, err := wanted(x.w, x.hour); err != x.want {
			t.Errorf("case %d: wanted %d", i, err)
		}
	}
}

func TestInForceLimit(t *testing.T) { // P9.1: the clauses are counted after each endorsement
	full := func(more string, l ...api.Endorsement) api.Wording { // 80 clauses and more
		return of(numbered("a", 0, 40), slices.Concat([]api.Endorsement{change(0, 9, "", numbered("b", 0, 40)), change(5, 9, "", more)}, l)...)
	}
	many := of(numbered("a", 0, 40))
	for i := range 12 {
		many.Endorsements = append(many.Endorsements, change(i, 20, "", numbered("c"+strconv.Itoa(i)+"-", 0, 6)))
	}
	for i, x := range []struct {
		w     api.Wording
		hour  int
		count int
		want  api.Errno
	}{
		{full(numbered("c", 0, 20)), 5, 100, api.OK}, {full(numbered("c", 0, 20)), 8, 100, api.OK}, {full(numbered("c", 0, 20)), 4, 80, api.OK}, {full(numbered("c", 0, 20)), 9, 40, api.OK},
		{full(numbered("c", 0, 21)), 5, 0, api.ErrLimit}, {full(numbered("c", 0, 40)), 8, 0, api.ErrLimit}, {full(numbered("c", 0, 40)), 4, 80, api.OK}, {full(numbered("c", 0, 40)), 9, 40, api.OK},
		{full(numbered("c", 0, 19), change(5, 9, "", "d")), 5, 100, api.OK}, {full(numbered("c", 0, 20), change(5, 9, "", "d")), 5, 0, api.ErrLimit}, {full(numbered("c", 0, 20), change(5, 9, "a0", "d")), 5, 100, api.OK}, {full(numbered("c", 0, 20), change(5, 9, "a0 b39", "d e f")), 5, 0, api.ErrLimit},
		{full(numbered("c", 0, 20), change(5, 9, "", "")), 5, 100, api.OK},
		{full(numbered("c", 0, 20), change(5, 9, numbered("a", 0, 40), numbered("d", 0, 40))), 5, 100, api.OK}, {full(numbered("c", 0, 20), change(5, 9, numbered("a", 1, 40), numbered("d", 0, 40))), 5, 0, api.ErrLimit},
		{full(numbered("c", 0, 21), change(5, 9, "c0", "")), 5, 0, api.ErrLimit}, {full(numbered("c", 0, 21), change(5, 9, "x", "")), 5, 0, api.ErrLimit}, {full(numbered("c", 0, 21), change(5, 9, "", "a0")), 5, 0, api.ErrLimit},
		{full(numbered("c", 0, 39) + " c0"), 5, 0, api.ErrDuplicate}, {full(numbered("c", 0, 39) + " b0"), 5, 0, api.ErrDuplicate}, {full(numbered("c", 0, 39) + " a39"), 5, 0, api.ErrDuplicate}, {full(numbered("c", 0, 20), change(5, 9, "x", "d")), 5, 0, api.ErrUnknown},
		{many, 0, 46, api.OK}, {many, 9, 100, api.OK}, {many, 10, 0, api.ErrLimit}, {many, 11, 0, api.ErrLimit}, {many, 19, 0, api.ErrLimit}, {many, 20, 40, api.OK},
	} {
		l, err := InForce(x.w, x.hour)
		back, e := wanted(x.w, x.hour)
		if len(l) != x.count || err != x.want || !alike(l, back) || err != e {
			t.Errorf("case %d: %d clauses, %d, not %d, %d", i, len(l), err, x.count, x.want)
		}
	}
}

func TestChangePoints(t *testing.T) { // P9.2
	for i, x := range []struct {
		w    api.Wording
		want []int
	}{
		{of("a", change(10, 20, "a", "b")), []int{0, 10, 20}}, // the chapter's
		{of(""), []int{0}}, {of("a b"), []int{0}},
		{of("", change(0, 1, "", "")), []int{0, 1}}, {of("", change(0, lastHour, "", "")), []int{0, lastHour}}, {of("", change(lastHour-1, lastHour, "", "")), []int{0, lastHour - 1, lastHour}}, {of("", change(1, 2, "", "")), []int{0, 1, 2}},
		{of("", change(5, 9, "", ""), change(9, 12, "", ""), change(0, 5, "", "")), []int{0, 5, 9, 12}}, {of("", change(5, 9, "", ""), change(5, 9, "", "")), []int{0, 5, 9}}, {of("", change(100, 200, "", ""), change(9, 30, "", ""), change(1000, 1001, "", "")), []int{0, 9, 30, 100, 200, 1000, 1001}},
		{of("a a", change(10, 20, "", "")), []int{0, 10, 20}}, {of("a", change(10, 20, "x", "a a")), []int{0, 10, 20}}, // the errors of InForce do not matter
		{of("A"), nil}, {of("a", change(10, 20, "", ""), change(10, 20, "A", "")), nil}, {of("a", change(0, 5, "", ""), change(5, end, "", "")), nil}, {of("a", change(-1, 5, "", "")), nil}, {of("a", change(5, 4, "", "")), nil}, {of("a", change(5, 5, "", "")), nil}, {of("a", slices.Repeat([]api.Endorsement{change(0, 5, "", "")}, 13)...), nil}, {of(numbered("a", 0, 41)), nil},
	} {
		if l := ChangePoints(x.w); !slices.Equal(l, x.want) {
			t.Errorf("case %d: %v, not %v", i, l, x.want)
		}
	}
	var most []api.Endorsement
	want := []int{0}
	for i := range 12 {
		most = append(most, change(24-i, 36+i, "", ""))
		want = append(want, 24-i, 36+i)
	}
	slices.Sort(want)
	if l := ChangePoints(of("", most...)); !slices.Equal(l, want) || len(l) != 25 {
		t.Errorf("%v, not %v", l, want)
	}
}

func TestTimeline(t *testing.T) { // P9.3
	for i, x := range []struct {
		w    api.Wording
		want []int // where the periods begin
		err  api.Errno
	}{
		{of("a", change(10, 20, "a", "b")), []int{0, 10, 20}, api.OK},
		{of(""), []int{0}, api.OK}, {of("a b"), []int{0}, api.OK}, {of("", change(10, 20, "", "")), []int{0}, api.OK}, {of("a", change(10, 20, "a", "a")), []int{0}, api.OK}, {of("a b", change(10, 20, "b", "b")), []int{0}, api.OK},
		{of("a b", change(10, 20, "a", "a")), []int{0, 10, 20}, api.OK}, // another order
		{of("a b", change(10, 20, "a b", "a b")), []int{0}, api.OK}, {of("a b", change(10, 20, "a b", "b a")), []int{0, 10, 20}, api.OK},
		{of("", change(0, 10, "", "a")), []int{0, 10}, api.OK}, {of("", change(0, lastHour, "", "a")), []int{0, lastHour}, api.OK}, {of("", change(lastHour-1, lastHour, "", "a")), []int{0, lastHour - 1, lastHour}, api.OK}, {of("", change(1, 2, "", "a")), []int{0, 1, 2}, api.OK},
		{of("", change(0, 10, "", "a"), change(10, 20, "", "a")), []int{0, 20}, api.OK}, {of("", change(10, 20, "", "a"), change(0, 10, "", "a")), []int{0, 20}, api.OK}, {of("", change(0, 10, "", "a"), change(11, 20, "", "a")), []int{0, 10, 11, 20}, api.OK},
		{of("", change(0, 10, "", "a"), change(10, 20, "", "b"), change(20, 30, "", "b"), change(30, 40, "", "a")), []int{0, 10, 30, 40}, api.OK},
		{of("a", change(5, 30, "", "b"), change(10, 20, "b", "b"), change(15, 25, "b", "c")), []int{0, 5, 15, 25, 30}, api.OK},
		{of("a", change(5, 30, "", "b"), change(10, 20, "b", "")), []int{0, 5, 10, 20, 30}, api.OK}, // the same clauses again, after others
		{of("a", change(5, 10, "a", "b"), change(20, 30, "a", "b")), []int{0, 5, 10, 20, 30}, api.OK},
		{of("A"), nil, api.ErrSyntax}, {of("a", change(0, end, "", "")), nil, api.ErrSyntax}, {of("a a", change(5, 5, "", "")), nil, api.ErrSyntax}, {of("a", change(0, 5, "x", ""), change(7, 9, "x x", "")), nil, api.ErrSyntax},
		{of("a a"), nil, api.ErrDuplicate}, {of("a a", change(0, 5, "x", "")), nil, api.ErrDuplicate},
		{of("a", change(0, 5, "x", "")), nil, api.ErrUnknown}, {of("a", change(lastHour-1, lastHour, "x", "")), nil, api.ErrUnknown}, {of("a", change(lastHour-1, lastHour, "", "a")), nil, api.ErrDuplicate},
		{of("a", change(30, 40, "x", ""), change(10, 20, "", "a")), nil, api.ErrDuplicate}, {of("a", change(30, 40, "", "a"), change(10, 20, "x", "")), nil, api.ErrUnknown}, // the least hour
		{of("a", change(10, 40, "x", ""), change(10, 20, "", "a")), nil, api.ErrUnknown}, {of("a", change(10, 20, "", "a"), change(5, 40, "x", "")), nil, api.ErrUnknown}, {of("a", change(5, 30, "a", ""), change(10, 20, "a", ""), change(4, 5, "", "a")), nil, api.ErrDuplicate},
		{of("a", change(5, 30, "a", ""), change(30, 40, "a", "b"), change(29, 31, "", "b")), nil, api.ErrDuplicate},
		{of(numbered("a", 0, 40), change(0, 20, "", numbered("b", 0, 40)), change(20, 30, "", numbered("b", 0, 40)), change(0, 30, "", numbered("c", 0, 20)), change(8, 9, "a0", "")), []int{0, 8, 9, 30}, api.OK},
		{of(numbered("a", 0, 40), change(0, 20, "", numbered("b", 0, 40)), change(19, 30, "", numbered("c", 0, 21)), change(25, 26, "x", "")), nil, api.ErrLimit},
	} {
		var want []api.Period
		for k, from := range x.want {
			want = append(want, api.Period{From: from, To: slices.Concat(x.want, []int{end})[k+1]})
		}
		if l, err := Timeline(x.w); !slices.Equal(l, want) || err != x.err {
			t.Errorf("case %d: %v, %d, not %v, %d", i, l, err, want, x.err)
		}
	}
}

func TestTimelineOfAllFields(t *testing.T) { // P9.3: clauses are the same if they are so in all fields
	first := anExclude("x", aBack("w", anAnd(anIn("p", "q"), aBetween(1, 5)), aBack("v", aTrue())))
	first.When = anAnd(aName("a"), anIn("p", "q"), aBetween(1, 5))
	cut := func(l ...api.Clause) api.Wording {
		return api.Wording{Clauses: []api.Clause{first}, Endorsements: []api.Endorsement{{Period: api.Period{From: 5, To: 9}, Remove: []string{"x"}, Clauses: l}}}
	}
	for i, f := range []func(*api.Clause){
		func(c *api.Clause) { c.Kind, c.Unless = api.ClauseCondition, nil }, func(c *api.Clause) { c.Name = "y" }, func(c *api.Clause) { c.Unless = nil },
		func(c *api.Clause) { c.When = aTrue() }, func(c *api.Clause) { c.When.Op = api.OpOr }, func(c *api.Clause) { c.When.Args[0].Name = "b" }, func(c *api.Clause) { c.When.Args[1].Words = []string{"q", "p"} }, func(c *api.Clause) { c.When.Args[1].Words = []string{"p"} }, func(c *api.Clause) { c.When.Args[2].Low = 0 }, func(c *api.Clause) { c.When.Args[2].High = 6 }, func(c *api.Clause) { c.When.Args = c.When.Args[:2] },
		func(c *api.Clause) { c.Unless[0].Name = "v" }, func(c *api.Clause) { c.Unless[0].When = aTrue() }, func(c *api.Clause) { c.Unless[0].When.Args[0].Words[1] = "r" }, func(c *api.Clause) { c.Unless[0].Unless = nil }, func(c *api.Clause) { c.Unless[0].Unless[0].Name = "u" }, func(c *api.Clause) { c.Unless = append(c.Unless, c.Unless[0]) },
		func(c *api.Clause) { *c = aLimit("x", 5) },
	} {
		c := otherClauses([]api.Clause{first})[0]
		if l, err := Timeline(cut(c)); !slices.Equal(l, []api.Period{{From: 0, To: end}}) || err != api.OK { // empty slices are as none
			t.Fatalf("%v, %d", l, err)
		}
		f(&c)
		if l, err := Timeline(cut(c)); !slices.Equal(l, []api.Period{{From: 0, To: 5}, {From: 5, To: 9}, {From: 9, To: end}}) || err != api.OK {
			t.Errorf("case %d: %v, %d", i, l, err)
		}
	}
	w := api.Wording{Clauses: []api.Clause{aLimit("x", 5)}, Endorsements: cut(aLimit("x", 6)).Endorsements}
	if l, err := Timeline(w); len(l) != 3 || err != api.OK {
		t.Errorf("amounts: %v, %d", l, err)
	}
}

// randomClause returns a clause that is one of few with its name.
func randomClause(r *rand.Rand, name string) api.Clause {
	return []api.Clause{aCover(name), aCover(name), aCover(name), anExclude(name, aBack("w", aTrue())), aLimit(name, 5+r.Intn(2))}[r.Intn(5)]
}

// randomHours are the hours at which random endorsements begin and end.
func randomHours() []int {
	return []int{0, 1, 2, 3, 4, 5, 6, 7, 8, 9, 10, 5000, lastHour - 2, lastHour - 1, lastHour}
}

// random returns a valid wording whose endorsements fit each other more often than not: each name that is in force after the ones before is hardly ever added, and others are hardly ever removed.
func random(r *rand.Rand) api.Wording {
	pool := strings.Fields("a b c d e f g h")
	all := map[string]bool{}
	add := func() []api.Clause {
		var l []api.Clause
		for range r.Intn(4) {
			if s := pool[r.Intn(len(pool))]; !all[s] || r.Intn(40) == 0 {
				all[s] = true
				l = append(l, randomClause(r, s))
			}
		}
		return l
	}
	w := api.Wording{Clauses: add()}
	if r.Intn(9) == 0 {
		w.Clauses = append(w.Clauses, covers(numbered("n", 0, 30+r.Intn(7)))...)
		w.Endorsements = []api.Endorsement{change(0, 3, "", numbered("m", 0, 33)), change(1, 5000, "", numbered("k", 0, 33))}
	}
	for range r.Intn(7) {
		e := api.Endorsement{}
		for _, s := range pool {
			if all[s] && r.Intn(4) == 0 || r.Intn(400) == 0 {
				e.Remove = append(e.Remove, s)
				all[s] = false
			}
		}
		r.Shuffle(len(e.Remove), func(i, k int) { e.Remove[i], e.Remove[k] = e.Remove[k], e.Remove[i] })
		e.Clauses = add()
		i := r.Intn(len(randomHours()) - 1)
		e.Period = api.Period{From: randomHours()[i], To: randomHours()[i+1+r.Intn(len(randomHours())-1-i)]}
		w.Endorsements = append(w.Endorsements, e)
	}
	return w
}

// sample are the hours at which random wordings are looked at, in ascending order.
func sample() []int {
	l := append(randomHours(), 11, 77, 4999, 5001, 400000, lastHour-3)
	slices.Sort(l)
	return l
}

func TestInForceOfRandomWordings(t *testing.T) { // P9.1, P9.2, P9.4
	r := rand.New(rand.NewSource(9))
	count := map[api.Errno]int{}
	for range 4000 {
		w := random(r)
		points := []int{0}
		for _, e := range w.Endorsements {
			points = append(points, e.Period.From, e.Period.To)
		}
		slices.Sort(points)
		points = slices.Compact(points)
		if l := ChangePoints(w); !slices.Equal(l, points) {
			t.Fatalf("%v: %v, not %v", w, l, points)
		}
		for _, hour := range sample() {
			l, err := InForce(w, hour)
			back, want := wanted(w, hour)
			if !alike(l, back) || err != want {
				t.Fatalf("%v, hour %d: %q, %d, not %q, %d", w, hour, names(l), err, names(back), want)
			}
			i, found := slices.BinarySearch(points, hour)
			if !found {
				i--
			}
			if there, e := InForce(w, points[i]); !alike(l, there) || err != e { // P9.4
				t.Fatalf("%v: %q, %d at %d, but %q, %d at %d", w, names(l), err, hour, names(there), e, points[i])
			}
			count[err]++
		}
	}
	if count[api.OK] < 40000 || count[api.ErrUnknown] < 1000 || count[api.ErrDuplicate] < 1000 || count[api.ErrLimit] < 100 {
		t.Error(count)
	}
}

// wantedTimeline returns where the periods of a random wording begin: it looks at each hour of the sample and at the one before it.
func wantedTimeline(w api.Wording) ([]int, api.Errno) {
	var l []int
	var last []api.Clause
	for _, hour := range sample() {
		now, err := wanted(w, hour)
		if err != api.OK {
			return nil, err
		}
		if hour == 0 || !alike(now, last) {
			l = append(l, hour)
		}
		last = now
	}
	return l, api.OK
}

func TestTimelineOfRandomWordings(t *testing.T) { // P9.3
	r := rand.New(rand.NewSource(10))
	count, fewer := map[api.Errno]int{}, 0
	for range 8000 {
		w := random(r)
		begins, want := wantedTimeline(w)
		l, err := Timeline(w)
		if len(l) != len(begins) || err != want {
			t.Fatalf("%v: %v, %d, not %v, %d", w, l, err, begins, want)
		}
		for i, p := range l {
			if p.From != begins[i] || p.To != append(begins, end)[i+1] {
				t.Fatalf("%v: %v, not %v", w, l, begins)
			}
		}
		count[err]++
		if err == api.OK && len(l) < len(ChangePoints(w)) {
			fewer++
		}
	}
	if count[api.OK] < 3000 || count[api.ErrUnknown] < 500 || count[api.ErrDuplicate] < 300 || count[api.ErrLimit] < 50 || fewer < 500 {
		t.Error(count, fewer)
	}
}

func TestWhatIsInForceDoesNotChangeBetweenChangePoints(t *testing.T) { // P9.4: at each hour of a month, and at the last ones
	w := of("a b", change(24, 700, "a", "c"), change(700, 740, "", "c"), change(100, 100000, "b", "a-2"), change(300, 301, "a-2", "b"), change(lastHour-5, lastHour, "", "z"))
	points := ChangePoints(w)
	var last []api.Clause
	for hour := range 800 + 10 {
		if hour >= 800 {
			hour = lastHour - 809 + hour
		}
		l, err := InForce(w, hour)
		if err != api.OK || !slices.Contains(points, hour) && hour != lastHour-9 && !alike(l, last) {
			t.Errorf("hour %d: %q, %d, after %q", hour, names(l), err, names(last))
		}
		last = l
	}
}

func TestArgumentsAreNotChanged(t *testing.T) { // P9.1, P9.2, P9.3
	w := every()
	w.Clauses = append(make([]api.Clause, 0, 60), w.Clauses...)
	w.Endorsements[0].Clauses = append(make([]api.Clause, 0, 60), w.Endorsements[0].Clauses...)
	before := copiedWording(w)
	for _, hour := range []int{0, 10, 15, 20, lastHour} {
		InForce(w, hour)
		ChangePoints(w)
		Timeline(w)
		if !wording.Same(w, before) {
			t.Fatalf("hour %d: %v", hour, w)
		}
	}
	for _, l := range [][]api.Clause{w.Clauses, w.Endorsements[0].Clauses} {
		for _, c := range l[len(l):cap(l)] {
			if c.Name != "" {
				t.Errorf("the memory after a list has %v", c)
			}
		}
	}
}

func TestMemory(t *testing.T) { // P9.1: a result shares no memory with the argument, with another result, or within itself
	for _, hour := range []int{0, 10, 15, 20, lastHour} {
		w := every()
		before := copiedWording(w)
		want, _ := wanted(before, hour)
		a, _ := InForce(w, hour)
		b, _ := InForce(w, hour)
		spoil(a)
		if !wording.Same(w, before) || !alike(b, want) {
			t.Errorf("hour %d: a change of the result changes more", hour)
		}
		for _, e := range w.Endorsements {
			spoil(e.Clauses)
			clear(e.Remove)
		}
		spoil(w.Clauses)
		if !alike(b, want) {
			t.Errorf("hour %d: a change of the argument changes the result", hour)
		}
		for i := range b {
			spoil(b[i : i+1 : i+1])
			if !alike(b[i+1:], want[i+1:]) {
				t.Errorf("hour %d: a change of the clause %d changes others", hour, i)
			}
		}
	}
}

func TestMemoryThatIsSharedBefore(t *testing.T) { // P9.1: nor does a result share memory within itself where the argument does
	e := anAnd(anIn("p", "q"), anIn("r"))
	e.Args[1].Words = e.Args[0].Words[:1]
	backs := []api.WriteBack{aBack("w", e, aBack("v", e)), aBack("u", e)}
	backs[1].Unless = backs[0].Unless
	c := anExclude("a", backs...)
	c.When = e
	w := api.Wording{Clauses: []api.Clause{c, c}, Endorsements: []api.Endorsement{{Period: api.Period{From: 0, To: 5}, Clauses: []api.Clause{c}}}}
	w.Clauses[1].Name, w.Endorsements[0].Clauses[0].Name = "b", "c"
	want := otherClauses([]api.Clause{w.Clauses[0], w.Clauses[1], w.Endorsements[0].Clauses[0]})
	l, err := InForce(w, 0)
	if !alike(l, want) || err != api.OK {
		t.Fatalf("%v, %d", l, err)
	}
	spoil(l[:1:1])
	spoilBacks(l[1].Unless[:1:1])
	spoilExpr(&l[2].When.Args[0])
	want[0], want[1].Unless[0], want[2].When.Args[0] = l[0], l[1].Unless[0], l[2].When.Args[0]
	if !alike(l, want) {
		t.Errorf("%v, not %v", l, want)
	}
}

func TestGreatWording(t *testing.T) { // P9.1, P9.3: the greatest wordings are no trouble
	e := api.Expr{Op: api.OpOr, Args: slices.Repeat([]api.Expr{anIn("fire")}, 299)}
	c := anExclude("a", slices.Repeat([]api.WriteBack{aBack("w", e)}, 40)...)
	c.When = e
	w := api.Wording{}
	for i := range 40 {
		c.Name = "a" + strconv.Itoa(i)
		w.Clauses = append(w.Clauses, c)
	}
	for i := range 12 {
		x := api.Endorsement{Period: api.Period{From: 2 * i, To: 50 - 2*i}, Remove: strings.Fields(names(w.Clauses)), Clauses: w.Clauses}
		w.Endorsements = append(w.Endorsements, x)
	}
	l, err := InForce(w, 24)
	if len(l) != 40 || err != api.OK || !alike(l, w.Clauses) {
		t.Errorf("%d clauses, %d", len(l), err)
	}
	if l, err := Timeline(w); !slices.Equal(l, []api.Period{{From: 0, To: end}}) || err != api.OK {
		t.Errorf("%v, %d", l, err)
	}
}
