// Package meaning finds out what an expression means: its type, and its value in a row.
package meaning

import (
	"slices"

	"clause/api"
	"clause/fault"
	"clause/syntax"
)

// Any is the type of NULL, which fits any. (The others are those of package api.)
const Any = 0

// Scope is the columns that an expression may name.
type Scope []syntax.Column

// Place answers which of the columns has a name: -1, if none has.
func (s Scope) Place(name string) int {
	return slices.IndexFunc(s, func(c syntax.Column) bool { return c.Name == name })
}

// Knows tells whether all names in an expression are names of columns.
func (s Scope) Knows(e syntax.Expr) bool {
	switch e := e.(type) {
	case syntax.Name:
		return s.Place(e.Column) >= 0
	case syntax.Unary:
		return s.Knows(e.Operand)
	case syntax.Binary:
		return s.Knows(e.Left) && s.Knows(e.Right)
	}
	return true
}

// Type answers the type of an expression whose names are known, or panics with a fault.Fault if its parts do not fit.
func (s Scope) Type(e syntax.Expr) int {
	switch e := e.(type) {
	case syntax.Bool:
		return api.Boolean
	case syntax.Number:
		return api.Integer
	case syntax.String:
		return api.Text
	case syntax.Name:
		return s[s.Place(e.Column)].Type &^ api.Must
	case syntax.Unary:
		return typeOfUnary(e.Kind, s.Type(e.Operand))
	case syntax.Binary:
		return typeOfBinary(e.Kind, s.Type(e.Left), s.Type(e.Right))
	}
	return Any
}

func typeOfUnary(kind, operand int) int {
	switch kind {
	case api.Neg:
		return allOf(api.Integer, operand)
	case api.Not:
		return allOf(api.Boolean, operand)
	}
	return api.Boolean
}

func typeOfBinary(kind, left, right int) int {
	switch kind {
	case api.Or, api.And:
		return allOf(api.Boolean, left, right)
	case api.Cat:
		return allOf(api.Text, left, right)
	case api.Add, api.Sub, api.Mul, api.Div, api.Mod:
		return allOf(api.Integer, left, right)
	}
	allOf(left, right)
	return api.Boolean
}

// allOf answers a type that all the others must fit.
func allOf(one int, others ...int) int {
	for _, other := range others {
		must(Fits(one, other), api.ErrType)
	}
	return one
}

// Fits tells whether two types are the same, or one of them fits any.
func Fits(one, other int) bool {
	return one == other || one == Any || other == Any
}

// must gives up unless it holds.
func must(holds bool, errno api.Errno) {
	if !holds {
		panic(fault.Fault{Err: errno})
	}
}
