// Package parser reads the statement of a text.
package parser

import (
	"strconv"

	"clause/api"
	"clause/fault"
	"clause/reader"
	"clause/syntax"
)

// Statement answers the statement of a text, or panics with a fault.Fault.
func Statement(text string) syntax.Statement {
	p := parser{tokens: reader.Tokens(text), end: len(text)}
	statement := p.statement()
	p.must(p.at == len(p.tokens))
	// This comes last: of two errors it is the one that counts less, wherever it is.
	if p.deep {
		panic(fault.Fault{Err: api.ErrDeep})
	}
	return statement
}

type parser struct {
	tokens []api.Token
	at     int  // which of the tokens stands next
	end    int  // the length of the text
	deep   bool // whether an expression was too deep
}

// fail gives up at a place of the text.
func (p *parser) fail(at int, errno api.Errno) {
	panic(fault.Fault{At: at, Err: errno})
}

// must gives up at the next token unless that can stand there.
func (p *parser) must(fits bool) {
	if !fits {
		p.fail(p.peek().At, api.ErrSyntax)
	}
}

// peek answers the next token: one of no kind, behind the last.
func (p *parser) peek() api.Token {
	if p.at < len(p.tokens) {
		return p.tokens[p.at]
	}
	return api.Token{At: p.end}
}

// take answers the next token, which must be of a kind, and goes behind it.
func (p *parser) take(kind int) api.Token {
	token := p.peek()
	p.must(token.Kind == kind)
	p.at++
	return token
}

// fixed answers the keyword or sign that stands next: "", if something else does. (A name or a string may have the same text.)
func (p *parser) fixed() string {
	token := p.peek()
	if token.Kind == api.Key || token.Kind == api.Sign {
		return token.Text
	}
	return ""
}

// accept goes behind a keyword or sign, if it stands next, and tells whether it did.
func (p *parser) accept(fixed string) bool {
	if p.fixed() != fixed {
		return false
	}
	p.at++
	return true
}

// expect goes behind keywords and signs that must stand next.
func (p *parser) expect(all ...string) {
	for _, fixed := range all {
		p.must(p.accept(fixed))
	}
}

// listOf reads one or more, with commas between them.
func listOf[T any](p *parser, read func() T) []T {
	list := []T{read()}
	for p.accept(",") {
		list = append(list, read())
	}
	return list
}

func (p *parser) name() string {
	token := p.take(api.Name)
	if len(token.Text) > api.MaxName {
		p.fail(token.At, api.ErrName)
	}
	return token.Text
}

// number reads a number that is at most so great.
func (p *parser) number(most int) int {
	token := p.take(api.Number)
	number, err := strconv.Atoi(token.Text)
	if err != nil || number > most {
		p.fail(token.At, api.ErrNumber)
	}
	return number
}
