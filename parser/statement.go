package parser

import (
	"clause/api"
	"clause/syntax"
)

func (p *parser) statement() syntax.Statement {
	switch {
	case p.accept("CREATE"):
		return p.create()
	case p.accept("DROP"):
		p.expect("TABLE")
		return syntax.Drop{Table: p.name()}
	case p.accept("INSERT"):
		return p.insert()
	case p.accept("DELETE"):
		return p.delete()
	case p.accept("UPDATE"):
		return p.update()
	}
	p.expect("SELECT")
	return p.selection()
}

func (p *parser) create() syntax.Create {
	p.expect("TABLE")
	create := syntax.Create{Table: p.name()}
	p.expect("(")
	number := 0
	create.Columns = listOf(p, func() syntax.Column {
		number++
		return p.column(number)
	})
	p.expect(")")
	return create
}

// column reads the column of a number, from 1 on.
func (p *parser) column(number int) syntax.Column {
	at := p.peek().At
	name := p.name()
	if number > api.MaxColumns {
		p.fail(at, api.ErrSyntax)
	}
	column := syntax.Column{Name: name, Type: p.columnType()}
	if p.accept("NOT") {
		p.expect("NULL")
		column.Type += api.Must
	}
	return column
}

func (p *parser) columnType() int {
	switch {
	case p.accept("INTEGER"):
		return api.Integer
	case p.accept("TEXT"):
		return api.Text
	}
	p.expect("BOOLEAN")
	return api.Boolean
}

func (p *parser) insert() syntax.Insert {
	p.expect("INTO")
	insert := syntax.Insert{Table: p.name()}
	p.expect("VALUES")
	insert.Rows = listOf(p, p.row)
	return insert
}

func (p *parser) row() []syntax.Expr {
	p.expect("(")
	row := listOf(p, p.expression)
	p.expect(")")
	return row
}

func (p *parser) delete() syntax.Delete {
	p.expect("FROM")
	table := p.name()
	return syntax.Delete{Table: table, Where: p.where()}
}

func (p *parser) update() syntax.Update {
	update := syntax.Update{Table: p.name()}
	p.expect("SET")
	update.Sets = listOf(p, p.set)
	update.Where = p.where()
	return update
}

func (p *parser) set() syntax.Set {
	column := p.name()
	p.expect("=")
	return syntax.Set{Column: column, Value: p.expression()}
}

func (p *parser) selection() syntax.Select {
	s := syntax.Select{Items: listOf(p, p.item)}
	p.expect("FROM")
	s.Table = p.name()
	s.Where = p.where()
	if p.accept("ORDER") {
		p.expect("BY")
		s.Orders = listOf(p, p.order)
	}
	if p.accept("LIMIT") {
		s.Limited, s.Limit = true, p.number(api.MaxLimit)
	}
	return s
}

func (p *parser) item() syntax.Item {
	if p.accept("*") {
		return syntax.Item{Star: true}
	}
	return syntax.Item{Value: p.expression()}
}

// where answers nil if no WHERE stands here.
func (p *parser) where() syntax.Expr {
	if !p.accept("WHERE") {
		return nil
	}
	return p.expression()
}

func (p *parser) order() syntax.Order {
	order := syntax.Order{By: p.expression()}
	order.Descending = p.accept("DESC")
	if !order.Descending {
		p.accept("ASC")
	}
	return order
}
