package database

import (
	"slices"

	"clause/api"
	"clause/meaning"
	"clause/syntax"
)

// found is a row of an answer, and the values that it is ordered by.
type found struct {
	cells, keys []api.Value
}

func (t *table) selection(s syntax.Select) api.Answer {
	items, orders := t.itemExprs(s.Items), orderExprs(s.Orders)
	check(t.columns, slices.Concat(demands(items, meaning.Any), demandsOfWhere(s.Where), demands(orders, meaning.Any)))
	var rows []found
	for _, row := range t.chosen(s.Where) {
		cells := values(t.columns, items, row)
		rows = append(rows, found{cells, values(t.columns, orders, row)})
	}
	slices.SortStableFunc(rows, func(a, b found) int { return compare(s.Orders, a.keys, b.keys) })
	// This comes last: what is wrong with a row counts even if the row is left out of the answer.
	if s.Limited {
		rows = rows[:min(s.Limit, len(rows))]
	}
	answer := api.Answer{Width: len(items)}
	for _, row := range rows {
		answer.Cells = append(answer.Cells, row.cells...)
	}
	return answer
}

// itemExprs answers the items of a SELECT, with the columns in place of each *.
func (t *table) itemExprs(items []syntax.Item) []syntax.Expr {
	var exprs []syntax.Expr
	for _, item := range items {
		if !item.Star {
			exprs = append(exprs, item.Value)
			continue
		}
		for _, column := range t.columns {
			exprs = append(exprs, syntax.Name{Column: column.Name})
		}
	}
	return exprs
}

func orderExprs(orders []syntax.Order) []syntax.Expr {
	var exprs []syntax.Expr
	for _, order := range orders {
		exprs = append(exprs, order.By)
	}
	return exprs
}

// compare answers in which order two rows stand: the first of the orders in which they are not alike says so.
func compare(orders []syntax.Order, one, other []api.Value) int {
	for i, order := range orders {
		c := meaning.Compare(one[i], other[i])
		if order.Descending {
			c = -c
		}
		if c != 0 {
			return c
		}
	}
	return 0
}
