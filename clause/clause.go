// Package clause: tables that are asked in sentences: see DOC.md.
package clause

import (
	"sync"

	"clause/api"
	"clause/database"
	"clause/fault"
	"clause/parser"
	"clause/printer"
	"clause/reader"
	"clause/syntax"
)

// Store is a database.
type Store struct {
	lock sync.Mutex
	data database.Database
}

// Tokens reads the tokens of a text (P3).
func Tokens(text string) (tokens []api.Token, at int, errno api.Errno) {
	defer func() {
		if caught := recover(); caught != nil {
			at, errno = fault.Told(caught)
		}
	}()
	return reader.Tokens(text), 0, api.OK
}

// Parse reads a statement (P4).
func Parse(text string) (tree []api.Node, at int, errno api.Errno) {
	defer func() {
		if caught := recover(); caught != nil {
			at, errno = fault.Told(caught)
		}
	}()
	return syntax.Nodes(parser.Statement(text)), 0, api.OK
}

// Print writes a tree (P5).
func Print(tree []api.Node) (text string, errno api.Errno) {
	defer func() {
		if caught := recover(); caught != nil {
			_, errno = fault.Told(caught)
		}
	}()
	return printer.Text(syntax.Read(tree)), api.OK
}

// New makes a store without tables (P7).
func New() *Store { return &Store{} }

// Run runs a statement (P7).
func (s *Store) Run(text string) (answer api.Answer, errno api.Errno) {
	defer func() {
		if caught := recover(); caught != nil {
			_, errno = fault.Told(caught)
		}
	}()
	statement := parser.Statement(text)
	// Where no store is there is no table either, and no place for one.
	if s == nil {
		return api.Answer{}, api.ErrTable
	}
	s.lock.Lock()
	defer s.lock.Unlock()
	return s.data.Run(statement), api.OK
}

// Dump writes the store down (P9).
func (s *Store) Dump() string {
	if s == nil {
		return ""
	}
	s.lock.Lock()
	defer s.lock.Unlock()
	return s.data.Dump()
}

// Load makes a store of a text (P10).
func Load(text string) (store *Store, count int, errno api.Errno) {
	defer func() {
		if caught := recover(); caught != nil {
			_, errno = fault.Told(caught)
		}
	}()
	// It needs no lock: nobody else knows of it yet.
	made := New()
	for piece, closed := range reader.Statements(text) {
		count++
		statement := parser.Statement(piece)
		// This comes behind the parser: its error counts more than that of the ; that is not there.
		if !closed {
			return nil, count, api.ErrSyntax
		}
		made.data.Run(statement)
	}
	return made, count, api.OK
}
