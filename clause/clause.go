// Package clause: tables that are asked in sentences: see DOC.md.
package clause

import (
	"clause/api"
	"clause/fault"
	"clause/parser"
	"clause/printer"
	"clause/reader"
	"clause/syntax"
)

// Store is a database.
type Store struct{}

// Tokens reads the tokens of a text (P3).
func Tokens(text string) (tokens []api.Token, at int, errno api.Errno) {
	defer func() {
		if caught := recover(); caught != nil {
			at, errno = fault.Told(caught)
		}
	}()
	return reader.Tokens(text), 0, api.OK
}

// Parse reads a statement (P4).
func Parse(text string) (tree []api.Node, at int, errno api.Errno) {
	defer func() {
		if caught := recover(); caught != nil {
			at, errno = fault.Told(caught)
		}
	}()
	return syntax.Nodes(parser.Statement(text)), 0, api.OK
}

// Print writes a tree (P5).
func Print(tree []api.Node) (text string, errno api.Errno) {
	defer func() {
		if caught := recover(); caught != nil {
			_, errno = fault.Told(caught)
		}
	}()
	return printer.Text(syntax.Read(tree)), api.OK
}

// New makes a store without tables (P7).
func New() *Store { return nil }

// Run runs a statement (P7).
func (s *Store) Run(text string) (api.Answer, api.Errno) { return api.Answer{}, api.OK }

// Dump writes the store down (P9).
func (s *Store) Dump() string { return "" }

// Load makes a store of a text (P10).
func Load(text string) (*Store, int, api.Errno) { return nil, 0, api.OK }
