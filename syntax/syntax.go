// Package syntax holds statements and expressions as values, and turns them into lists of nodes and back.
package syntax

// Statement is a Create, a Drop, an Insert, a Delete, an Update or a Select.
type Statement interface{ isStatement() }

// Create makes a table.
type Create struct {
	Table   string
	Columns []Column
}

// Column is a column: its Type is that of package api, api.Must more if it is NOT NULL.
type Column struct {
	Name string
	Type int
}

// Drop takes a table away.
type Drop struct {
	Table string
}

// Insert puts rows into a table.
type Insert struct {
	Table string
	Rows  [][]Expr
}

// Delete takes rows away: all, if Where is nil.
type Delete struct {
	Table string
	Where Expr
}

// Update gives rows new values: all of them, if Where is nil.
type Update struct {
	Table string
	Sets  []Set
	Where Expr
}

// Set is a column and its new value.
type Set struct {
	Column string
	Value  Expr
}

// Select asks for rows: all, if Where is nil; Limit counts only if Limited.
type Select struct {
	Items   []Item
	Table   string
	Where   Expr
	Orders  []Order
	Limited bool
	Limit   int
}

// Item is what a row of the answer has: an expression, or all columns, if Star.
type Item struct {
	Star  bool
	Value Expr
}

// Order is what the rows are ordered by.
type Order struct {
	By         Expr
	Descending bool
}

func (Create) isStatement() {}
func (Drop) isStatement()   {}
func (Insert) isStatement() {}
func (Delete) isStatement() {}
func (Update) isStatement() {}
func (Select) isStatement() {}

// Expr is an expression: a Null, a Bool, a Number, a String, a Name, a Unary or a Binary.
type Expr interface{ isExpr() }

// Null is NULL.
type Null struct{}

// Bool is TRUE or FALSE.
type Bool struct {
	Value bool
}

// Number is a number, with its sign.
type Number struct {
	Value int
}

// String is a text.
type String struct {
	Value string
}

// Name is the name of a column.
type Name struct {
	Column string
}

// Unary is an operator with one operand: its Kind is api.Neg, api.Not, api.IsNull or api.NotNull.
type Unary struct {
	Kind    int
	Operand Expr
}

// Binary is an operator with two operands: its Kind is one from api.Or to api.Mod.
type Binary struct {
	Kind        int
	Left, Right Expr
}

func (Null) isExpr()   {}
func (Bool) isExpr()   {}
func (Number) isExpr() {}
func (String) isExpr() {}
func (Name) isExpr()   {}
func (Unary) isExpr()  {}
func (Binary) isExpr() {}

// Depth answers how deep an expression is.
func Depth(e Expr) int {
	switch e := e.(type) {
	case Unary:
		return 1 + Depth(e.Operand)
	case Binary:
		return 1 + max(Depth(e.Left), Depth(e.Right))
	}
	return 1
}
