// Package clause: tables that are asked in sentences: see DOC.md.
package clause

import (
	"clause/api"
	"clause/reader"
)

// Store is a database.
type Store struct{}

// Tokens reads the tokens of a text (P3).
func Tokens(text string) (tokens []api.Token, at int, errno api.Errno) {
	defer func() {
		if caught := recover(); caught != nil {
			at, errno = told(caught)
		}
	}()
	return reader.Tokens(text), 0, api.OK
}

// told answers what the reader gave up with. Any other panic is a mistake of the program, not one of the text, and goes on: an error of the text would hide it.
func told(caught any) (int, api.Errno) {
	fault, ok := caught.(reader.Fault)
	if !ok {
		panic(caught)
	}
	return fault.At, fault.Err
}

// Parse reads a statement (P4).
func Parse(text string) ([]api.Node, int, api.Errno) { return nil, 0, api.OK }

// Print writes a tree (P5).
func Print(tree []api.Node) (string, api.Errno) { return "", api.OK }

// New makes a store without tables (P7).
func New() *Store { return nil }

// Run runs a statement (P7).
func (s *Store) Run(text string) (api.Answer, api.Errno) { return api.Answer{}, api.OK }

// Dump writes the store down (P9).
func (s *Store) Dump() string { return "" }

// Load makes a store of a text (P10).
func Load(text string) (*Store, int, api.Errno) { return nil, 0, api.OK }
