package syntax

import "clause/api"

// Nodes answers the tree of a statement.
func Nodes(s Statement) []api.Node {
	var l lister
	switch s := s.(type) {
	case Create:
		l.create(s)
	case Drop:
		l.add(api.Drop, s.Table, 0, 0)
	case Insert:
		l.insert(s)
	case Delete:
		l.add(api.Delete, s.Table, 0, count(s.Where))
		l.where(s.Where)
	case Update:
		l.update(s)
	case Select:
		l.selection(s)
	}
	return l.nodes
}

// lister gathers the nodes of a tree, each ahead of its kids.
type lister struct {
	nodes []api.Node
}

func (l *lister) add(kind int, text string, number, kids int) {
	l.nodes = append(l.nodes, api.Node{Kind: kind, Text: text, Int: number, Kids: kids})
}

func (l *lister) create(s Create) {
	l.add(api.Create, s.Table, 0, len(s.Columns))
	for _, column := range s.Columns {
		l.add(api.Column, column.Name, column.Type, 0)
	}
}

func (l *lister) insert(s Insert) {
	l.add(api.Insert, s.Table, 0, len(s.Rows))
	for _, row := range s.Rows {
		l.add(api.Row, "", 0, len(row))
		for _, e := range row {
			l.expr(e)
		}
	}
}

func (l *lister) update(s Update) {
	l.add(api.Update, s.Table, 0, len(s.Sets)+count(s.Where))
	for _, set := range s.Sets {
		l.add(api.Set, set.Column, 0, 1)
		l.expr(set.Value)
	}
	l.where(s.Where)
}

func (l *lister) selection(s Select) {
	l.add(api.Select, s.Table, 0, len(s.Items)+count(s.Where)+len(s.Orders)+one(s.Limited))
	for _, item := range s.Items {
		if item.Star {
			l.add(api.Star, "", 0, 0)
		} else {
			l.expr(item.Value)
		}
	}
	l.where(s.Where)
	for _, order := range s.Orders {
		l.add(api.Order, "", one(order.Descending), 1)
		l.expr(order.By)
	}
	if s.Limited {
		l.add(api.Limit, "", s.Limit, 0)
	}
}

func (l *lister) where(e Expr) {
	if e != nil {
		l.add(api.Where, "", 0, 1)
		l.expr(e)
	}
}

func (l *lister) expr(e Expr) {
	switch e := e.(type) {
	case Null:
		l.add(api.Null, "", 0, 0)
	case Bool:
		l.add(api.Bool, "", one(e.Value), 0)
	case Number:
		l.add(api.Number, "", e.Value, 0)
	case String:
		l.add(api.String, e.Value, 0, 0)
	case Name:
		l.add(api.Name, e.Column, 0, 0)
	case Unary:
		l.add(e.Kind, "", 0, 1)
		l.expr(e.Operand)
	case Binary:
		l.add(e.Kind, "", 0, 2)
		l.expr(e.Left)
		l.expr(e.Right)
	}
}

// count answers how many kids a WHERE makes.
func count(where Expr) int {
	return one(where != nil)
}

func one(is bool) int {
	if is {
		return 1
	}
	return 0
}
