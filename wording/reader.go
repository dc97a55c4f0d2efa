package wording

import (
	"slices"

	"treaty/api"
	"treaty/lexer"
	"treaty/syntax"
)

// reader reads tokens one after the other. Its methods panic with the first error; the next token is the one that has it then.
type reader struct {
	l     []api.Token // the last one is the end of the text: it is of no kind, fits nowhere and is never read
	at    int         // the index of the next token
	backs int         // the write-backs of the clause so far
}

// wording reads the clauses and endorsements of a whole text.
func (r *reader) wording() api.Wording {
	w := api.Wording{Clauses: r.clauses()}
	for r.isWord(endorse) {
		refuse(len(w.Endorsements) == api.MaxEndorse, api.ErrLimit)
		w.Endorsements = append(w.Endorsements, r.endorsement())
	}
	refuse(r.at < len(r.l)-1, api.ErrSyntax)
	return w
}

// endorsement reads an endorsement.
func (r *reader) endorsement() api.Endorsement {
	var e api.Endorsement
	r.wantsWord(endorse)
	e.Period.From = r.hour(0)
	r.wantsWord(to)
	e.Period.To = r.hour(e.Period.From + 1)
	r.wantsMark(colon)
	if r.takesWord(remove) {
		e.Remove = r.removed()
	}
	e.Clauses = r.clauses()
	r.wantsWord(end)
	r.wantsMark(semicolon)
	return e
}

// removed reads the names after remove.
func (r *reader) removed() []string {
	l := []string{r.name()}
	for !r.takesMark(semicolon) {
		r.wantsMark(comma)
		refuse(!r.isName(), api.ErrSyntax)
		refuse(slices.Contains(l, r.next().Text), api.ErrDuplicate)
		refuse(len(l) == api.MaxClauses, api.ErrLimit)
		l = append(l, r.name())
	}
	return l
}

// clauses reads all clauses that follow.
func (r *reader) clauses() []api.Clause {
	var l []api.Clause
	for kind := r.kind(); kind != 0; kind = r.kind() {
		refuse(len(l) == api.MaxClauses, api.ErrLimit)
		l = append(l, r.clause(kind))
	}
	return l
}

// clause reads a clause of a kind.
func (r *reader) clause(kind int) api.Clause {
	r.wantsWord(kinds[kind].word)
	c := api.Clause{Kind: kind, Name: r.name()}
	r.wantsMark(colon)
	if most := kinds[kind].most; most > 0 {
		c.Amount = r.amount(most)
		r.wantsWord(when)
	}
	c.When = r.expression()
	r.backs = 0
	if kind == api.ClauseExclude {
		c.Unless = r.exceptions(1)
	}
	r.wantsMark(semicolon)
	return c
}

// exceptions reads the write-backs of a clause or of a write-back, if there are any. They are at a depth.
func (r *reader) exceptions(depth int) []api.WriteBack {
	if !r.isWord(unless) {
		return nil
	}
	refuse(depth > api.MaxDepth, api.ErrLimit)
	r.wantsWord(unless)
	r.wantsMark(opening)
	l := []api.WriteBack{r.writeBack(depth)}
	for !r.takesMark(closing) {
		r.wantsMark(comma)
		l = append(l, r.writeBack(depth))
	}
	return l
}

// writeBack reads a write-back at a depth.
func (r *reader) writeBack(depth int) api.WriteBack {
	refuse(!r.isName(), api.ErrSyntax)
	refuse(r.backs == api.MaxClauses, api.ErrLimit)
	r.backs++
	b := api.WriteBack{Name: r.name()}
	r.wantsMark(colon)
	b.When = r.expression()
	b.Unless = r.exceptions(depth + 1)
	return b
}

// expression reads an expression.
func (r *reader) expression() api.Expr {
	e, next, bad, err := syntax.Tokens(r.l, r.at)
	if err != api.OK {
		r.at = bad
		panic(err)
	}
	r.at = next
	return e
}

// kind returns the kind of the clause that begins with the next token, or 0 if none begins there.
func (r *reader) kind() int {
	for i := api.ClauseDefine; i <= api.ClauseSublimit; i++ {
		if r.isWord(kinds[i].word) {
			return i
		}
	}
	return 0
}

// amount reads a number from 1 to most.
func (r *reader) amount(most int) int {
	n := r.next().Number
	refuse(r.next().Kind != api.TokenNumber, api.ErrSyntax)
	refuse(n < 1 || n > most, api.ErrRange)
	r.at++
	return n
}

// hour reads an hour that is not less than another one.
func (r *reader) hour(least int) int {
	n := r.next().Number
	refuse(r.next().Kind != api.TokenHour, api.ErrSyntax)
	refuse(n < least, api.ErrRange)
	r.at++
	return n
}

// name reads a name.
func (r *reader) name() string {
	s := r.next().Text
	refuse(!r.isName(), api.ErrSyntax)
	r.at++
	return s
}

// wantsWord reads a word that must be next.
func (r *reader) wantsWord(s string) {
	refuse(!r.takesWord(s), api.ErrSyntax)
}

// wantsMark reads a mark that must be next.
func (r *reader) wantsMark(s string) {
	refuse(!r.takesMark(s), api.ErrSyntax)
}

// takesWord reads a word if it is next.
func (r *reader) takesWord(s string) bool {
	return r.takes(r.isWord(s))
}

// takesMark reads a mark if it is next.
func (r *reader) takesMark(s string) bool {
	t := r.next()
	return r.takes(t.Kind == api.TokenMark && t.Text == s)
}

// takes reads the next token if it is the one looked for, and returns whether it is.
func (r *reader) takes(fits bool) bool {
	if fits {
		r.at++
	}
	return fits
}

// isWord reports whether the next token is a word.
func (r *reader) isWord(s string) bool {
	t := r.next()
	return t.Kind == api.TokenName && t.Text == s
}

// isName reports whether the next token is a name.
func (r *reader) isName() bool {
	t := r.next()
	return t.Kind == api.TokenName && lexer.Name(t.Text)
}

// next returns the next token, without reading it.
func (r *reader) next() api.Token {
	return r.l[r.at]
}

// refuse raises an error of the next token if it is wrong.
func refuse(wrong bool, err api.Errno) {
	if wrong {
		panic(err)
	}
}
