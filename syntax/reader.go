package syntax

import (
	"slices"

	"treaty/api"
	"treaty/lexer"
)

// reader reads tokens one after the other. After an error it takes no more of them, and what its methods return has no meaning.
type reader struct {
	l   []api.Token
	at  int       // the index of the next token, or of the one with the error
	err api.Errno // the first error
}

// joined reads parts with the word of OpOr or OpAnd between them.
func (r *reader) joined(op int) api.Expr {
	e := r.part(op)
	if !r.takesWord(operators[op].word) {
		return e
	}
	args := []api.Expr{e, r.part(op)}
	for r.takesWord(operators[op].word) {
		args = append(args, r.part(op))
	}
	return api.Expr{Op: op, Args: args}
}

// part reads what may stand beside the word of OpOr or OpAnd.
func (r *reader) part(op int) api.Expr {
	if op == api.OpOr {
		return r.joined(api.OpAnd)
	}
	return r.single()
}

// single reads an expression that is not joined, or one in parentheses.
func (r *reader) single() api.Expr {
	switch {
	case r.takesMark(opening):
		e := r.joined(api.OpOr)
		r.wantsMark(closing)
		return e
	case r.takesWord(operators[api.OpNot].word):
		return api.Expr{Op: api.OpNot, Args: []api.Expr{r.single()}}
	case r.takesWord(operators[api.OpTrue].word):
		return api.Expr{Op: api.OpTrue}
	case r.takesWord(operators[api.OpFalse].word):
		return api.Expr{Op: api.OpFalse}
	}
	return r.named()
}

// named reads an expression that begins with a name.
func (r *reader) named() api.Expr {
	name := r.name(nil)
	switch {
	case r.takesWord(operators[api.OpIn].word):
		return api.Expr{Op: api.OpIn, Name: name, Words: r.words()}
	case r.takesWord(operators[api.OpBetween].word):
		low := r.number(-api.MaxNumber)
		r.wantsWord(to)
		return api.Expr{Op: api.OpBetween, Name: name, Low: low, High: r.number(low)}
	}
	return api.Expr{Op: api.OpName, Name: name}
}

// words reads a list of words in parentheses.
func (r *reader) words() []string {
	r.wantsMark(opening)
	words := []string{r.name(nil)}
	for r.err == api.OK && !r.takesMark(closing) {
		r.wantsMark(comma)
		words = append(words, r.name(words))
	}
	return words
}

// name reads a name, which may follow others in a list of words.
func (r *reader) name(others []string) string {
	t := r.next()
	switch {
	case t.Kind != api.TokenName || !lexer.Name(t.Text):
		r.fail(api.ErrSyntax)
	case len(others) == api.MaxWords:
		r.fail(api.ErrLimit)
	case slices.Contains(others, t.Text):
		r.fail(api.ErrDuplicate)
	default:
		r.at++
	}
	return t.Text
}

// number reads a number that is not less than another one.
func (r *reader) number(least int) int {
	t := r.next()
	switch {
	case t.Kind != api.TokenNumber:
		r.fail(api.ErrSyntax)
	case t.Number < least || t.Number > api.MaxNumber:
		r.fail(api.ErrRange)
	default:
		r.at++
	}
	return t.Number
}

// wantsWord reads a word that must be next.
func (r *reader) wantsWord(s string) {
	if !r.takesWord(s) {
		r.fail(api.ErrSyntax)
	}
}

// wantsMark reads a mark that must be next.
func (r *reader) wantsMark(s string) {
	if !r.takesMark(s) {
		r.fail(api.ErrSyntax)
	}
}

// takesWord reads a word if it is next.
func (r *reader) takesWord(s string) bool {
	return r.takes(api.TokenName, s)
}

// takesMark reads a mark if it is next.
func (r *reader) takesMark(s string) bool {
	return r.takes(api.TokenMark, s)
}

// takes reads a token with a text if it is next.
func (r *reader) takes(kind int, text string) bool {
	t := r.next()
	if t.Kind != kind || t.Text != text {
		return false
	}
	r.at++
	return true
}

// next returns the next token, without reading it; after an error and at the end, one of no kind.
func (r *reader) next() api.Token {
	if r.err != api.OK || r.at == len(r.l) {
		return api.Token{}
	}
	return r.l[r.at]
}

// fail notes an error at the next token, if there is none yet.
func (r *reader) fail(err api.Errno) {
	if r.err == api.OK {
		r.err = err
	}
}
