// Package printer writes statements.
package printer

import (
	"strings"

	"clause/api"
	"clause/fault"
	"clause/reader"
	"clause/syntax"
)

// Text answers the text of a statement, or panics with a fault.Fault if that is too long.
func Text(s syntax.Statement) string {
	var p printer
	p.statement(s)
	return p.text.String()
}

type printer struct {
	text  strings.Builder
	last  string // the token that was put last
	ahead bool   // whether that is a - ahead of its operand
}

// put writes tokens.
func (p *printer) put(tokens ...string) {
	for _, token := range tokens {
		if p.isApart(token) {
			p.text.WriteByte(' ')
		}
		p.text.WriteString(token)
		p.last, p.ahead = token, false
		// What is too long already need not be written to its end.
		if p.text.Len() > api.MaxText {
			panic(fault.Fault{Err: api.ErrLong})
		}
	}
}

// isApart tells whether a space stands between the last token and the next.
func (p *printer) isApart(next string) bool {
	switch {
	case p.last == "" || p.last == "(" || next == ")" || next == ",":
		return false
	case p.ahead:
		// Without the space the two would begin a comment.
		return strings.HasPrefix(next, "-")
	}
	return true
}

// putMinus writes a - that stands ahead of its operand.
func (p *printer) putMinus() {
	p.put("-")
	p.ahead = true
}

func (p *printer) putName(name string) {
	if reader.IsBare(name) {
		p.put(name)
	} else {
		p.put(quoted(name, `"`))
	}
}

// quoted answers a text between marks, with those within doubled.
func quoted(text, mark string) string {
	return mark + strings.ReplaceAll(text, mark, mark+mark) + mark
}

// putList writes a list with commas between.
func putList[T any](p *printer, list []T, put func(T)) {
	for i, each := range list {
		if i > 0 {
			p.put(",")
		}
		put(each)
	}
}
