package wording

import (
	"strconv"
	"strings"

	"treaty/api"
	"treaty/lexer"
	"treaty/syntax"
)

// writer writes the text of a valid wording, with blanks between its tokens where lexer.Join has them.
type writer struct {
	b   strings.Builder
	err api.Errno // that of an expression that is too long by itself
}

// text returns what was written, if it is within the limits of a text, which Scan has, too.
func (t *writer) text() (string, api.Errno) {
	s := t.b.String()
	if t.err == api.OK {
		_, _, t.err = lexer.Scan(s)
	}
	if t.err != api.OK {
		return "", t.err
	}
	return s, api.OK
}

// endorsement writes the lines of an endorsement.
func (t *writer) endorsement(e api.Endorsement) {
	t.write(endorse, " ")
	t.hour(e.Period.From)
	t.write(" ", to, " ")
	t.hour(e.Period.To)
	t.write(colon, "\n")
	if len(e.Remove) > 0 {
		t.write(remove, " ", strings.Join(e.Remove, comma+" "), semicolon, "\n")
	}
	t.clauses(e.Clauses)
	t.write(end, semicolon, "\n")
}

// clauses writes a line for each clause.
func (t *writer) clauses(l []api.Clause) {
	for _, c := range l {
		t.write(kinds[c.Kind].word, " ", c.Name, colon, " ")
		if c.Amount > 0 {
			t.write(strconv.Itoa(c.Amount), " ", when, " ")
		}
		t.expression(c.When)
		t.exceptions(c.Unless)
		t.write(semicolon, "\n")
	}
}

// exceptions writes the write-backs of a clause or of a write-back, if there are any.
func (t *writer) exceptions(l []api.WriteBack) {
	if len(l) == 0 {
		return
	}
	t.write(" ", unless, " ", opening)
	for i, b := range l {
		if i > 0 {
			t.write(comma, " ")
		}
		t.write(b.Name, colon, " ")
		t.expression(b.When)
		t.exceptions(b.Unless)
	}
	t.write(closing)
}

// expression writes an expression, unless the text is too long already: the work on a very great wording would be for nothing.
func (t *writer) expression(e api.Expr) {
	if t.err != api.OK || t.b.Len() > api.MaxText {
		return
	}
	s, err := syntax.Format(e)
	t.err = err
	t.write(s)
}

// hour writes an hour of a valid period.
func (t *writer) hour(n int) {
	s, _ := lexer.Join([]api.Token{{Kind: api.TokenHour, Number: n}})
	t.write(s)
}

// write writes strings one after the other.
func (t *writer) write(parts ...string) {
	for _, s := range parts {
		t.b.WriteString(s)
	}
}
