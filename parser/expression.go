package parser

import (
	"math"

	"clause/api"
	"clause/reader"
	"clause/syntax"
)

// expression reads a whole expression of a statement.
func (p *parser) expression() syntax.Expr {
	e := p.level(syntax.LevelOr)
	if syntax.Depth(e) > api.MaxDepth {
		p.deep = true
	}
	return e
}

// level reads an expression of that level or a higher one.
func (p *parser) level(level int) syntax.Expr {
	switch level {
	case syntax.LevelNot:
		return p.not()
	case syntax.LevelCompare:
		return p.comparison()
	case syntax.LevelMinus:
		return p.minus()
	}
	e := p.level(level + 1)
	for {
		kind, ok := syntax.Operator(p.fixed(), level)
		if !ok {
			return e
		}
		p.at++
		e = syntax.Binary{Kind: kind, Left: e, Right: p.level(level + 1)}
	}
}

func (p *parser) not() syntax.Expr {
	if !p.accept("NOT") {
		return p.level(syntax.LevelCompare)
	}
	return syntax.Unary{Kind: api.Not, Operand: p.not()}
}

// comparison does not go on behind one: what stands there then is refused by whoever asked for the expression.
func (p *parser) comparison() syntax.Expr {
	left := p.level(syntax.LevelCat)
	if p.accept("IS") {
		return syntax.Unary{Kind: p.nullness(), Operand: left}
	}
	kind, ok := syntax.Operator(p.fixed(), syntax.LevelCompare)
	if !ok {
		return left
	}
	p.at++
	return syntax.Binary{Kind: kind, Left: left, Right: p.level(syntax.LevelCat)}
}

func (p *parser) nullness() int {
	kind := api.IsNull
	if p.accept("NOT") {
		kind = api.NotNull
	}
	p.expect("NULL")
	return kind
}

func (p *parser) minus() syntax.Expr {
	at := p.peek().At
	if !p.accept("-") {
		return p.single()
	}
	// Without its - it has no place among the numbers, so it can't be read as one first.
	if token := p.peek(); token.Kind == api.Number && token.Text == reader.Greatest {
		p.at++
		return syntax.Number{Value: math.MinInt}
	}
	return p.negative(at, p.minus())
}

// negative answers what the - at a place makes of its operand.
func (p *parser) negative(at int, operand syntax.Expr) syntax.Expr {
	number, ok := operand.(syntax.Number)
	if !ok {
		return syntax.Unary{Kind: api.Neg, Operand: operand}
	}
	if number.Value == math.MinInt {
		p.fail(at, api.ErrNumber)
	}
	return syntax.Number{Value: -number.Value}
}

func (p *parser) single() syntax.Expr {
	switch p.peek().Kind {
	case api.Number:
		return syntax.Number{Value: p.number(math.MaxInt)}
	case api.String:
		return syntax.String{Value: p.take(api.String).Text}
	case api.Name:
		return syntax.Name{Column: p.name()}
	}
	switch {
	case p.accept("TRUE"):
		return syntax.Bool{Value: true}
	case p.accept("FALSE"):
		return syntax.Bool{Value: false}
	case p.accept("NULL"):
		return syntax.Null{}
	}
	p.expect("(")
	e := p.level(syntax.LevelOr)
	p.expect(")")
	return e
}
