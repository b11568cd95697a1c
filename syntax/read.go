package syntax

import (
	"strings"
	"unicode/utf8"

	"clause/api"
	"clause/fault"
)

// Read answers the statement of a tree, or panics with a fault.Fault if the tree is not well-formed.
func Read(tree []api.Node) Statement {
	w := walker{rest: tree}
	s := w.statement()
	w.must(len(w.rest) == 0)
	return s
}

// walker goes through the nodes of a tree.
type walker struct {
	rest []api.Node
}

// must gives up unless it holds.
func (w *walker) must(holds bool) {
	if !holds {
		panic(fault.Fault{Err: api.ErrTree})
	}
}

// peek answers the kind of the next node: 0, which is none, behind the last.
func (w *walker) peek() int {
	if len(w.rest) == 0 {
		return 0
	}
	return w.rest[0].Kind
}

func (w *walker) take() api.Node {
	w.must(len(w.rest) > 0)
	node := w.rest[0]
	w.rest = w.rest[1:]
	return node
}

// kind takes a node that must be of a kind.
func (w *walker) kind(kind int) api.Node {
	node := w.take()
	w.must(node.Kind == kind)
	return node
}

// fields asks a node for what it says: what its kind has no use for must be empty.
func (w *walker) fields(n api.Node, text string, number, kids int) {
	w.must(n.Text == text && n.Int == number && n.Kids == kids)
}

func (w *walker) name(name string) string {
	w.must(name != "" && len(name) <= api.MaxName)
	return w.text(name)
}

func (w *walker) text(text string) string {
	w.must(utf8.ValidString(text) && !strings.Contains(text, "\x00"))
	return text
}

// truth answers what a number that is 0 or 1 says.
func (w *walker) truth(number int) bool {
	w.must(number == 0 || number == 1)
	return number == 1
}

func (w *walker) statement() Statement {
	n := w.take()
	w.fields(n, n.Text, 0, n.Kids)
	w.name(n.Text)
	switch n.Kind {
	case api.Create:
		return w.create(n)
	case api.Drop:
		w.must(n.Kids == 0)
		return Drop{Table: n.Text}
	case api.Insert:
		return w.insert(n)
	case api.Delete:
		return w.delete(n)
	case api.Update:
		return w.update(n)
	case api.Select:
		return w.selection(n)
	}
	w.must(false)
	return nil
}

func (w *walker) create(n api.Node) Create {
	w.must(1 <= n.Kids && n.Kids <= api.MaxColumns)
	create := Create{Table: n.Text}
	for range n.Kids {
		create.Columns = append(create.Columns, w.column())
	}
	return create
}

func (w *walker) column() Column {
	n := w.kind(api.Column)
	w.fields(n, w.name(n.Text), n.Int, 0)
	bare := n.Int
	if bare > api.Must {
		bare -= api.Must
	}
	w.must(api.Integer <= bare && bare <= api.Boolean)
	return Column{Name: n.Text, Type: n.Int}
}

func (w *walker) insert(n api.Node) Insert {
	w.must(n.Kids >= 1)
	insert := Insert{Table: n.Text}
	for range n.Kids {
		insert.Rows = append(insert.Rows, w.row())
	}
	return insert
}

func (w *walker) row() []Expr {
	n := w.kind(api.Row)
	w.fields(n, "", 0, n.Kids)
	w.must(n.Kids >= 1)
	var row []Expr
	for range n.Kids {
		row = append(row, w.expr(1))
	}
	return row
}

func (w *walker) delete(n api.Node) Delete {
	left := n.Kids
	where := w.where(&left)
	w.must(left == 0)
	return Delete{Table: n.Text, Where: where}
}

func (w *walker) update(n api.Node) Update {
	update := Update{Table: n.Text}
	left := n.Kids
	for w.isKid(&left, api.Set) {
		update.Sets = append(update.Sets, w.set())
	}
	update.Where = w.where(&left)
	w.must(left == 0 && len(update.Sets) > 0)
	return update
}

func (w *walker) set() Set {
	n := w.kind(api.Set)
	w.fields(n, w.name(n.Text), 0, 1)
	return Set{Column: n.Text, Value: w.expr(1)}
}

func (w *walker) selection(n api.Node) Select {
	s := Select{Table: n.Text}
	left := n.Kids
	for left > 0 && !isTail(w.peek()) {
		left--
		s.Items = append(s.Items, w.item())
	}
	s.Where = w.where(&left)
	for w.isKid(&left, api.Order) {
		s.Orders = append(s.Orders, w.order())
	}
	if w.isKid(&left, api.Limit) {
		s.Limited, s.Limit = true, w.limit()
	}
	w.must(left == 0 && len(s.Items) > 0)
	return s
}

// isTail tells whether a kid of a Select stands behind all items.
func isTail(kind int) bool {
	return kind == api.Where || kind == api.Order || kind == api.Limit
}

// isKid tells whether the next node is one of the kids that are left and of a kind, and counts it off then.
func (w *walker) isKid(left *int, kind int) bool {
	if *left <= 0 || w.peek() != kind {
		return false
	}
	*left--
	return true
}

func (w *walker) item() Item {
	if w.peek() != api.Star {
		return Item{Value: w.expr(1)}
	}
	w.fields(w.take(), "", 0, 0)
	return Item{Star: true}
}

// where answers nil if the next node is no WHERE of those kids that are left.
func (w *walker) where(left *int) Expr {
	if !w.isKid(left, api.Where) {
		return nil
	}
	w.fields(w.take(), "", 0, 1)
	return w.expr(1)
}

func (w *walker) order() Order {
	n := w.take()
	w.fields(n, "", n.Int, 1)
	descending := w.truth(n.Int)
	return Order{By: w.expr(1), Descending: descending}
}

func (w *walker) limit() int {
	n := w.take()
	w.fields(n, "", n.Int, 0)
	w.must(0 <= n.Int && n.Int <= api.MaxLimit)
	return n.Int
}

// expr reads an expression that stands at a depth. It asks for the bound on the way down, so that no tree, however deep, makes it go deeper.
func (w *walker) expr(depth int) Expr {
	w.must(depth <= api.MaxDepth)
	n := w.take()
	switch n.Kind {
	case api.Neg, api.Not, api.IsNull, api.NotNull:
		w.fields(n, "", 0, 1)
		return w.unary(n.Kind, depth)
	}
	if operatorOf(n.Kind).kind != 0 {
		w.fields(n, "", 0, 2)
		left := w.expr(depth + 1)
		return Binary{Kind: n.Kind, Left: left, Right: w.expr(depth + 1)}
	}
	return w.single(n)
}

func (w *walker) unary(kind, depth int) Expr {
	// The negative of a number is a number of its own.
	w.must(kind != api.Neg || w.peek() != api.Number)
	return Unary{Kind: kind, Operand: w.expr(depth + 1)}
}

func (w *walker) single(n api.Node) Expr {
	switch n.Kind {
	case api.Null:
		w.fields(n, "", 0, 0)
		return Null{}
	case api.Bool:
		w.fields(n, "", n.Int, 0)
		return Bool{Value: w.truth(n.Int)}
	case api.Number:
		w.fields(n, "", n.Int, 0)
		return Number{Value: n.Int}
	case api.String:
		w.fields(n, w.text(n.Text), 0, 0)
		return String{Value: n.Text}
	case api.Name:
		w.fields(n, w.name(n.Text), 0, 0)
		return Name{Column: n.Text}
	}
	w.must(false)
	return nil
}
