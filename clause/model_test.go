package clause_test

import (
	"bytes"
	"math/big"
	"slices"
	"sort"
	"strings"

	"clause/api"
	"clause/clause"
)

// This is a second reading of what a statement does to tables, the plainest that can be: it walks the nodes of Parse, reckons with numbers of any length, keeps rows in lists, and takes back a copy of all tables where there is an error.

// part is a node and its kids.
type part struct {
	api.Node
	kids []part
}

// partOf answers the first part of a list of nodes, and what stands behind it.
func partOf(nodes []api.Node) (part, []api.Node) {
	p := part{Node: nodes[0]}
	rest := nodes[1:]
	for range p.Kids {
		var kid part
		kid, rest = partOf(rest)
		p.kids = append(p.kids, kid)
	}
	return p, rest
}

// of answers the kids of a kind.
func (p part) of(kind int) []part {
	return slices.DeleteFunc(slices.Clone(p.kids), func(kid part) bool { return kid.Kind != kind })
}

type plainTable struct {
	name    string
	columns []part
	rows    [][]api.Value
}

type plainStore []plainTable

// copied answers a store that shares nothing with this one.
func (m plainStore) copied() plainStore {
	list := slices.Clone(m)
	for i := range list {
		list[i].rows = slices.Clone(list[i].rows)
		for k := range list[i].rows {
			list[i].rows[k] = slices.Clone(list[i].rows[k])
		}
	}
	return list
}

func (m plainStore) find(name string) int {
	return slices.IndexFunc(m, func(t plainTable) bool { return t.name == name })
}

// run does what Run must do.
func (m *plainStore) run(text string) (api.Answer, api.Errno) {
	nodes, _, errno := clause.Parse(text)
	if errno != api.OK {
		return api.Answer{}, errno
	}
	p, _ := partOf(nodes)
	before := m.copied()
	answer, errno := m.do(p)
	if errno != api.OK {
		*m = before
		return api.Answer{}, errno
	}
	return answer, api.OK
}

func (m *plainStore) do(p part) (api.Answer, api.Errno) {
	at := m.find(p.Text)
	if (at < 0) != (p.Kind == api.Create) {
		return api.Answer{}, api.ErrTable
	}
	switch p.Kind {
	case api.Create:
		return api.Answer{}, m.create(p)
	case api.Drop:
		*m = slices.Delete(*m, at, at+1)
		return api.Answer{}, api.OK
	}
	t := &(*m)[at]
	if errno := t.wrong(p); errno != api.OK {
		return api.Answer{}, errno
	}
	switch p.Kind {
	case api.Insert:
		return t.insert(p)
	case api.Delete:
		return t.remove(p)
	case api.Update:
		return t.update(p)
	}
	return t.ask(p)
}

func (m *plainStore) create(p part) api.Errno {
	var names []string
	for _, c := range p.kids {
		names = append(names, c.Text)
	}
	sort.Strings(names)
	if len(slices.Compact(names)) < len(p.kids) {
		return api.ErrColumn
	}
	if len(*m) == 8 {
		return api.ErrFull
	}
	*m = append(*m, plainTable{name: p.Text, columns: p.kids})
	return api.OK
}

func (t *plainTable) place(name string) int {
	return slices.IndexFunc(t.columns, func(c part) bool { return c.Text == name })
}

// wrong answers what is wrong with a statement before any row is looked at.
func (t *plainTable) wrong(p part) api.Errno {
	isColumn, isType := false, false
	set := map[string]int{}
	for _, kid := range p.kids {
		switch kid.Kind {
		case api.Row:
			isColumn = isColumn || len(kid.kids) != len(t.columns) || slices.ContainsFunc(kid.kids, hasName)
			for i, e := range kid.kids {
				isType = isType || i < len(t.columns) && !suits(t.typeOf(e), t.columns[i].Int%4)
			}
			continue
		case api.Set:
			set[kid.Text]++
			place := t.place(kid.Text)
			isColumn = isColumn || place < 0 || set[kid.Text] > 1
			isType = isType || place >= 0 && !suits(t.typeOf(kid.kids[0]), t.columns[place].Int%4)
		case api.Where:
			isType = isType || !suits(t.typeOf(kid.kids[0]), 3)
		}
		isColumn = isColumn || t.hasStranger(kid)
		isType = isType || t.typeOf(kid) < 0
	}
	switch {
	case isColumn:
		return api.ErrColumn
	case isType:
		return api.ErrType
	}
	return api.OK
}

func hasName(p part) bool { return p.Kind == api.Name || slices.ContainsFunc(p.kids, hasName) }

// hasStranger tells whether a name in an expression is none of the columns.
func (t *plainTable) hasStranger(p part) bool {
	return p.Kind == api.Name && t.place(p.Text) < 0 || slices.ContainsFunc(p.kids, t.hasStranger)
}

// suits: 0 is a type that fits any, -1 one that fits none.
func suits(is, must int) bool { return is == 0 || is == must }

// operands: of which type the operands of a kind are; and of which the whole is.
var operands = map[int][2]int{
	api.Neg: {1, 1}, api.Not: {3, 3}, api.Or: {3, 3}, api.And: {3, 3}, api.Cat: {2, 2},
	api.Add: {1, 1}, api.Sub: {1, 1}, api.Mul: {1, 1}, api.Div: {1, 1}, api.Mod: {1, 1},
}

// typeOf answers the type of an expression, or of what stands ahead of one that of that.
func (t *plainTable) typeOf(p part) int {
	var types []int
	for _, kid := range p.kids {
		types = append(types, t.typeOf(kid))
	}
	if slices.Contains(types, -1) {
		return -1
	}
	switch p.Kind {
	case api.Star, api.Limit, api.Null:
		return 0
	case api.Number:
		return 1
	case api.String:
		return 2
	case api.Bool, api.IsNull, api.NotNull:
		return 3
	case api.Name:
		if place := t.place(p.Text); place >= 0 {
			return t.columns[place].Int % 4
		}
		return 0
	case api.Set, api.Where, api.Order:
		return types[0]
	}
	if operand, is := operands[p.Kind]; is {
		for _, is := range types {
			if !suits(is, operand[0]) {
				return -1
			}
		}
		return operand[1]
	}
	if !suits(types[0], types[1]) && !suits(types[1], types[0]) {
		return -1
	}
	return 3
}

var (
	nothing = api.Value{Kind: api.Null}
	yes     = api.Value{Kind: api.Bool, Int: 1}
	no      = api.Value{Kind: api.Bool, Int: 0}
)

func yesOrNo(is bool) (api.Value, api.Errno) {
	if is {
		return yes, api.OK
	}
	return no, api.OK
}

func boundedText(text string) (api.Value, api.Errno) {
	if len(text) > 100 {
		return api.Value{}, api.ErrBig
	}
	return api.Value{Kind: api.String, Text: text}, api.OK
}

func boundedNumber(n *big.Int) (api.Value, api.Errno) {
	if !n.IsInt64() {
		return api.Value{}, api.ErrOver
	}
	return api.Value{Kind: api.Number, Int: int(n.Int64())}, api.OK
}

func (t *plainTable) valueOf(p part, row []api.Value) (api.Value, api.Errno) {
	var parts []api.Value
	for _, kid := range p.kids {
		v, errno := t.valueOf(kid, row)
		if errno != api.OK {
			return api.Value{}, errno
		}
		parts = append(parts, v)
	}
	isNull := slices.Contains(parts, nothing)
	switch p.Kind {
	case api.Null:
		return nothing, api.OK
	case api.Number, api.Bool:
		return api.Value{Kind: p.Kind, Int: p.Int}, api.OK
	case api.String:
		return boundedText(p.Text)
	case api.Name:
		return row[t.place(p.Text)], api.OK
	case api.IsNull:
		return yesOrNo(isNull)
	case api.NotNull:
		return yesOrNo(!isNull)
	case api.And:
		if slices.Contains(parts, no) {
			return no, api.OK
		}
	case api.Or:
		if slices.Contains(parts, yes) {
			return yes, api.OK
		}
	}
	if isNull {
		return nothing, api.OK
	}
	return combined(p.Kind, parts)
}

// combined answers what an operator makes of operands that are not NULL.
func combined(kind int, parts []api.Value) (api.Value, api.Errno) {
	first, last := parts[0], parts[len(parts)-1]
	a, b, out := big.NewInt(int64(first.Int)), big.NewInt(int64(last.Int)), new(big.Int)
	switch kind {
	case api.Not:
		return yesOrNo(first == no)
	case api.And:
		return yes, api.OK
	case api.Or:
		return no, api.OK
	case api.Cat:
		return boundedText(first.Text + last.Text)
	case api.Neg:
		return boundedNumber(out.Neg(a))
	case api.Add:
		return boundedNumber(out.Add(a, b))
	case api.Sub:
		return boundedNumber(out.Sub(a, b))
	case api.Mul:
		return boundedNumber(out.Mul(a, b))
	case api.Div, api.Mod:
		if b.Sign() == 0 {
			return api.Value{}, api.ErrZero
		}
		if kind == api.Div {
			return boundedNumber(out.Quo(a, b))
		}
		return boundedNumber(out.Rem(a, b))
	}
	order := rank(first, last)
	return yesOrNo(map[int]bool{api.Eq: order == 0, api.Ne: order != 0, api.Lt: order < 0, api.Le: order <= 0, api.Gt: order > 0, api.Ge: order >= 0}[kind])
}

// rank answers in which order two values of one type stand. (Beside a NULL the kinds do: that of NULL is the lowest.)
func rank(a, b api.Value) int {
	if a.Kind != b.Kind {
		return a.Kind - b.Kind
	}
	if a.Text != b.Text {
		return bytes.Compare([]byte(a.Text), []byte(b.Text))
	}
	return big.NewInt(int64(a.Int)).Cmp(big.NewInt(int64(b.Int)))
}

// isMeant tells whether WHERE is TRUE in a row.
func (t *plainTable) isMeant(p part, row []api.Value) (bool, api.Errno) {
	for _, where := range p.of(api.Where) {
		v, errno := t.valueOf(where.kids[0], row)
		return v == yes, errno
	}
	return true, api.OK
}

func (t *plainTable) hasBadNull(row []api.Value) bool {
	for i, v := range row {
		if v == nothing && t.columns[i].Int > 4 {
			return true
		}
	}
	return false
}

func (t *plainTable) insert(p part) (api.Answer, api.Errno) {
	for _, r := range p.kids {
		var row []api.Value
		for _, e := range r.kids {
			v, errno := t.valueOf(e, nil)
			if errno != api.OK {
				return api.Answer{}, errno
			}
			row = append(row, v)
		}
		if t.hasBadNull(row) {
			return api.Answer{}, api.ErrNull
		}
		t.rows = append(t.rows, row)
	}
	if len(t.rows) > 200 {
		return api.Answer{}, api.ErrFull
	}
	return api.Answer{Changed: len(p.kids)}, api.OK
}

func (t *plainTable) remove(p part) (api.Answer, api.Errno) {
	var left [][]api.Value
	for _, row := range t.rows {
		is, errno := t.isMeant(p, row)
		if errno != api.OK {
			return api.Answer{}, errno
		}
		if !is {
			left = append(left, row)
		}
	}
	gone := len(t.rows) - len(left)
	t.rows = left
	return api.Answer{Changed: gone}, api.OK
}

func (t *plainTable) update(p part) (api.Answer, api.Errno) {
	changed := 0
	for i, row := range t.rows {
		is, errno := t.isMeant(p, row)
		if errno != api.OK {
			return api.Answer{}, errno
		}
		if !is {
			continue
		}
		fresh := slices.Clone(row)
		for _, set := range p.of(api.Set) {
			v, errno := t.valueOf(set.kids[0], row)
			if errno != api.OK {
				return api.Answer{}, errno
			}
			fresh[t.place(set.Text)] = v
		}
		if t.hasBadNull(fresh) {
			return api.Answer{}, api.ErrNull
		}
		t.rows[i] = fresh
		changed++
	}
	return api.Answer{Changed: changed}, api.OK
}

func (t *plainTable) ask(p part) (api.Answer, api.Errno) {
	var rows []struct{ cells, keys []api.Value }
	for _, row := range t.rows {
		is, errno := t.isMeant(p, row)
		if errno != api.OK {
			return api.Answer{}, errno
		}
		if !is {
			continue
		}
		cells, errno := t.cells(p, row)
		if errno != api.OK {
			return api.Answer{}, errno
		}
		var keys []api.Value
		for _, order := range p.of(api.Order) {
			v, errno := t.valueOf(order.kids[0], row)
			if errno != api.OK {
				return api.Answer{}, errno
			}
			keys = append(keys, v)
		}
		rows = append(rows, struct{ cells, keys []api.Value }{cells, keys})
	}
	// From the last order to the first, each keeping what the later ones made.
	orders := p.of(api.Order)
	for i := len(orders) - 1; i >= 0; i-- {
		sort.SliceStable(rows, func(a, b int) bool {
			if orders[i].Int == 1 {
				a, b = b, a
			}
			return rank(rows[a].keys[i], rows[b].keys[i]) < 0
		})
	}
	answer := api.Answer{Width: t.width(p)}
	for i, row := range rows {
		if limits := p.of(api.Limit); len(limits) > 0 && i >= limits[0].Int {
			break
		}
		answer.Cells = append(answer.Cells, row.cells...)
	}
	return answer, api.OK
}

func isItem(kind int) bool { return kind != api.Where && kind != api.Order && kind != api.Limit }

func (t *plainTable) width(p part) int {
	width := 0
	for _, kid := range p.kids {
		if kid.Kind == api.Star {
			width += len(t.columns)
		} else if isItem(kid.Kind) {
			width++
		}
	}
	return width
}

func (t *plainTable) cells(p part, row []api.Value) ([]api.Value, api.Errno) {
	var cells []api.Value
	for _, kid := range p.kids {
		if kid.Kind == api.Star {
			cells = append(cells, row...)
		} else if isItem(kid.Kind) {
			v, errno := t.valueOf(kid, row)
			if errno != api.OK {
				return nil, errno
			}
			cells = append(cells, v)
		}
	}
	return cells, api.OK
}

// dump does what Dump must do, by Print.
func (m plainStore) dump() string {
	var text strings.Builder
	add := func(tree []api.Node) {
		printed, _ := clause.Print(tree)
		text.WriteString(printed + ";\n")
	}
	tables := slices.Clone(m)
	sort.Slice(tables, func(a, b int) bool { return bytes.Compare([]byte(tables[a].name), []byte(tables[b].name)) < 0 })
	for _, t := range tables {
		create := []api.Node{node(api.Create, t.name, 0, len(t.columns))}
		for _, c := range t.columns {
			create = append(create, c.Node)
		}
		add(create)
		for _, row := range t.rows {
			insert := []api.Node{node(api.Insert, t.name, 0, 1), inner(api.Row, len(row))}
			for _, v := range row {
				insert = append(insert, node(v.Kind, v.Text, v.Int, 0))
			}
			add(insert)
		}
	}
	return text.String()
}
