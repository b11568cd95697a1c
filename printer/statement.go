package printer

import (
	"strconv"

	"clause/api"
	"clause/syntax"
)

func (p *printer) statement(s syntax.Statement) {
	switch s := s.(type) {
	case syntax.Create:
		p.create(s)
	case syntax.Drop:
		p.put("DROP", "TABLE")
		p.putName(s.Table)
	case syntax.Insert:
		p.insert(s)
	case syntax.Delete:
		p.put("DELETE", "FROM")
		p.putName(s.Table)
		p.where(s.Where)
	case syntax.Update:
		p.update(s)
	case syntax.Select:
		p.selection(s)
	}
}

func (p *printer) create(s syntax.Create) {
	p.put("CREATE", "TABLE")
	p.putName(s.Table)
	p.put("(")
	putList(p, s.Columns, p.column)
	p.put(")")
}

func (p *printer) column(c syntax.Column) {
	p.putName(c.Name)
	switch c.Type &^ api.Must {
	case api.Integer:
		p.put("INTEGER")
	case api.Text:
		p.put("TEXT")
	case api.Boolean:
		p.put("BOOLEAN")
	}
	if c.Type&api.Must != 0 {
		p.put("NOT", "NULL")
	}
}

func (p *printer) insert(s syntax.Insert) {
	p.put("INSERT", "INTO")
	p.putName(s.Table)
	p.put("VALUES")
	putList(p, s.Rows, p.row)
}

func (p *printer) row(row []syntax.Expr) {
	p.put("(")
	putList(p, row, p.whole)
	p.put(")")
}

func (p *printer) update(s syntax.Update) {
	p.put("UPDATE")
	p.putName(s.Table)
	p.put("SET")
	putList(p, s.Sets, p.set)
	p.where(s.Where)
}

func (p *printer) set(s syntax.Set) {
	p.putName(s.Column)
	p.put("=")
	p.whole(s.Value)
}

func (p *printer) selection(s syntax.Select) {
	p.put("SELECT")
	putList(p, s.Items, p.item)
	p.put("FROM")
	p.putName(s.Table)
	p.where(s.Where)
	if len(s.Orders) > 0 {
		p.put("ORDER", "BY")
		putList(p, s.Orders, p.order)
	}
	if s.Limited {
		p.put("LIMIT", strconv.Itoa(s.Limit))
	}
}

func (p *printer) item(i syntax.Item) {
	if i.Star {
		p.put("*")
	} else {
		p.whole(i.Value)
	}
}

func (p *printer) where(e syntax.Expr) {
	if e != nil {
		p.put("WHERE")
		p.whole(e)
	}
}

func (p *printer) order(o syntax.Order) {
	p.whole(o.By)
	if o.Descending {
		p.put("DESC")
	}
}
