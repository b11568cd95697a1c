package database

import (
	"iter"

	"clause/api"
	"clause/btree"
	"clause/meaning"
	"clause/syntax"
)

// table is columns, and rows by their numbers. A row that lies in it is never written into: a new one takes its place.
type table struct {
	columns meaning.Scope
	rows    btree.Tree[int, []api.Value]
	next    int // the number of the row that joins next
}

// demand is an expression and the type that it must fit.
type demand struct {
	expr syntax.Expr
	want int
}

// demands answers expressions that must all fit one type.
func demands(exprs []syntax.Expr, want int) []demand {
	var list []demand
	for _, e := range exprs {
		list = append(list, demand{e, want})
	}
	return list
}

// demandsOfWhere answers what a WHERE demands: nothing, if there is none.
func demandsOfWhere(where syntax.Expr) []demand {
	if where == nil {
		return nil
	}
	return []demand{{where, api.Boolean}}
}

// check gives up unless expressions know their names and fit. A name of the last counts more than a type of the first, so the names of all come first.
func check(scope meaning.Scope, list []demand) {
	for _, d := range list {
		must(scope.Knows(d.expr), api.ErrColumn)
	}
	for _, d := range list {
		must(meaning.Fits(scope.Type(d.expr), d.want), api.ErrType)
	}
}

// typeAt answers the type of the column at a place.
func (t *table) typeAt(place int) int {
	return t.columns[place].Type &^ api.Must
}

// checkNulls gives up if a row has a NULL where NOT NULL is.
func (t *table) checkNulls(row []api.Value) {
	for i, v := range row {
		must(!meaning.IsNull(v) || t.columns[i].Type&api.Must == 0, api.ErrNull)
	}
}

// chosen gives the rows for which a WHERE is TRUE, or all if there is none, by rising numbers. What is wrong with the WHERE in a row comes out only when that row is asked for.
func (t *table) chosen(where syntax.Expr) iter.Seq2[int, []api.Value] {
	return func(yield func(int, []api.Value) bool) {
		for number, row := range t.rows.All() {
			if t.isChosen(where, row) && !yield(number, row) {
				return
			}
		}
	}
}

func (t *table) isChosen(where syntax.Expr, row []api.Value) bool {
	return where == nil || meaning.IsTrue(t.columns.Value(where, row))
}

// values answers the values of expressions in a row.
func values(scope meaning.Scope, exprs []syntax.Expr, row []api.Value) []api.Value {
	var list []api.Value
	for _, e := range exprs {
		list = append(list, scope.Value(e, row))
	}
	return list
}
