package meaning

import (
	"cmp"

	"clause/api"
	"clause/syntax"
)

// Value answers the value in a row of an expression that has a type, or panics with a fault.Fault. All parts are found out, from the left: the error of one counts even where its value would not.
func (s Scope) Value(e syntax.Expr, row []api.Value) api.Value {
	switch e := e.(type) {
	case syntax.Bool:
		return truth(e.Value)
	case syntax.Number:
		return number(e.Value)
	case syntax.String:
		return text(e.Value)
	case syntax.Name:
		return row[s.Place(e.Column)]
	case syntax.Unary:
		return unary(e.Kind, s.Value(e.Operand, row))
	case syntax.Binary:
		left := s.Value(e.Left, row)
		return binary(e.Kind, left, s.Value(e.Right, row))
	}
	return null()
}

// Literal answers the expression whose value a value is.
func Literal(v api.Value) syntax.Expr {
	switch v.Kind {
	case api.Bool:
		return syntax.Bool{Value: IsTrue(v)}
	case api.Number:
		return syntax.Number{Value: v.Int}
	case api.String:
		return syntax.String{Value: v.Text}
	}
	return syntax.Null{}
}

// IsNull tells whether a value is NULL.
func IsNull(v api.Value) bool { return v.Kind == api.Null }

// IsTrue tells whether a truth is TRUE: FALSE is not, and NULL is not.
func IsTrue(v api.Value) bool { return v == truth(true) }

// Compare answers, below, at or above 0, in which order two values of one type stand: NULL stands ahead of all.
func Compare(one, other api.Value) int {
	switch {
	case IsNull(one) && IsNull(other):
		return 0
	case IsNull(one):
		return -1
	case IsNull(other):
		return 1
	case one.Kind == api.String:
		return cmp.Compare(one.Text, other.Text)
	}
	return cmp.Compare(one.Int, other.Int)
}

func null() api.Value { return api.Value{Kind: api.Null} }

func number(n int) api.Value { return api.Value{Kind: api.Number, Int: n} }

func truth(is bool) api.Value {
	if is {
		return api.Value{Kind: api.Bool, Int: 1}
	}
	return api.Value{Kind: api.Bool}
}

func text(t string) api.Value {
	must(len(t) <= api.MaxCell, api.ErrBig)
	return api.Value{Kind: api.String, Text: t}
}

func unary(kind int, v api.Value) api.Value {
	switch {
	case kind == api.IsNull:
		return truth(IsNull(v))
	case kind == api.NotNull:
		return truth(!IsNull(v))
	case IsNull(v):
		return null()
	case kind == api.Not:
		return truth(!IsTrue(v))
	}
	return number(negative(v.Int))
}

func binary(kind int, left, right api.Value) api.Value {
	switch {
	case kind == api.And:
		return unlessOne(truth(false), left, right)
	case kind == api.Or:
		return unlessOne(truth(true), left, right)
	case IsNull(left) || IsNull(right):
		return null()
	case kind == api.Cat:
		return text(left.Text + right.Text)
	case api.Eq <= kind && kind <= api.Ge:
		return truth(holds(kind, Compare(left, right)))
	}
	return number(calculated(kind, left.Int, right.Int))
}

// unlessOne answers what AND and OR do: one truth decides, even beside a NULL. If neither operand is that one, NULL counts; else both are the other truth.
func unlessOne(deciding, left, right api.Value) api.Value {
	switch {
	case left == deciding || right == deciding:
		return deciding
	case IsNull(left):
		return left
	}
	return right
}

// holds tells whether a comparison does, by the order of its operands.
func holds(kind, order int) bool {
	switch kind {
	case api.Eq:
		return order == 0
	case api.Ne:
		return order != 0
	case api.Lt:
		return order < 0
	case api.Le:
		return order <= 0
	case api.Gt:
		return order > 0
	}
	return order >= 0
}
