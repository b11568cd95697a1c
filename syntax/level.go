package syntax

import "clause/api"

// The levels of expressions.
const (
	LevelOr = 1 + iota
	LevelAnd
	LevelNot
	LevelCompare
	LevelCat
	LevelSum
	LevelProduct
	LevelMinus
	LevelSingle
)

// operator is one with two operands: the keyword or sign between them, and its level.
type operator struct {
	kind  int
	sign  string
	level int
}

var operators = [...]operator{
	{api.Or, "OR", LevelOr},
	{api.And, "AND", LevelAnd},
	{api.Eq, "=", LevelCompare},
	{api.Ne, "<>", LevelCompare},
	{api.Lt, "<", LevelCompare},
	{api.Le, "<=", LevelCompare},
	{api.Gt, ">", LevelCompare},
	{api.Ge, ">=", LevelCompare},
	{api.Cat, "||", LevelCat},
	{api.Add, "+", LevelSum},
	{api.Sub, "-", LevelSum},
	{api.Mul, "*", LevelProduct},
	{api.Div, "/", LevelProduct},
	{api.Mod, "%", LevelProduct},
}

// Operator answers the kind of the operator of a level that a keyword or sign is, or false.
func Operator(sign string, level int) (int, bool) {
	for _, o := range operators {
		if o.sign == sign && o.level == level {
			return o.kind, true
		}
	}
	return 0, false
}

// Sign answers the keyword or sign between the operands of a Binary.
func Sign(kind int) string {
	return operatorOf(kind).sign
}

// Level answers the level of an expression.
func Level(e Expr) int {
	switch e := e.(type) {
	case Number:
		if e.Value < 0 {
			return LevelMinus
		}
	case Unary:
		return levelOfUnary(e.Kind)
	case Binary:
		return operatorOf(e.Kind).level
	}
	return LevelSingle
}

func levelOfUnary(kind int) int {
	switch kind {
	case api.Not:
		return LevelNot
	case api.Neg:
		return LevelMinus
	}
	return LevelCompare
}

// operatorOf answers the operator of a kind: one of no kind, if there is none.
func operatorOf(kind int) operator {
	for _, o := range operators {
		if o.kind == kind {
			return o
		}
	}
	return operator{}
}
