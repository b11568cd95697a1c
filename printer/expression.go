package printer

import (
	"strconv"

	"clause/api"
	"clause/syntax"
)

// whole writes an expression where one of any level may stand.
func (p *printer) whole(e syntax.Expr) {
	switch e := e.(type) {
	case syntax.Null:
		p.put("NULL")
	case syntax.Bool:
		p.truth(e.Value)
	case syntax.Number:
		p.number(e.Value)
	case syntax.String:
		p.put(quoted(e.Value, "'"))
	case syntax.Name:
		p.putName(e.Column)
	case syntax.Unary:
		p.unary(e)
	case syntax.Binary:
		p.binary(e)
	}
}

// operand writes an expression where one of that level or a higher one may stand.
func (p *printer) operand(e syntax.Expr, lowest int) {
	if syntax.Level(e) >= lowest {
		p.whole(e)
		return
	}
	p.put("(")
	p.whole(e)
	p.put(")")
}

func (p *printer) truth(is bool) {
	if is {
		p.put("TRUE")
	} else {
		p.put("FALSE")
	}
}

func (p *printer) number(n int) {
	digits := strconv.Itoa(n)
	if n < 0 {
		p.putMinus()
		// The digits can't come from the number's negative: the lowest has none.
		digits = digits[1:]
	}
	p.put(digits)
}

func (p *printer) unary(e syntax.Unary) {
	switch e.Kind {
	case api.Neg:
		p.putMinus()
		p.operand(e.Operand, syntax.LevelMinus)
	case api.Not:
		p.put("NOT")
		p.operand(e.Operand, syntax.LevelNot)
	case api.IsNull:
		p.operand(e.Operand, syntax.LevelCompare+1)
		p.put("IS", "NULL")
	case api.NotNull:
		p.operand(e.Operand, syntax.LevelCompare+1)
		p.put("IS", "NOT", "NULL")
	}
}

func (p *printer) binary(e syntax.Binary) {
	level := syntax.Level(e)
	left := level
	if level == syntax.LevelCompare {
		left++
	}
	p.operand(e.Left, left)
	p.put(syntax.Sign(e.Kind))
	p.operand(e.Right, level+1)
}
