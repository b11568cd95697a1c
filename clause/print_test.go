package clause_test

import (
	"math"
	"slices"
	"strings"
	"testing"

	"clause/api"
	"clause/clause"
)

// wantText holds the text of a tree against the one that it must have.
func wantText(t *testing.T, want string, tree ...api.Node) {
	t.Helper()
	text, errno := clause.Print(tree)
	if text != want || errno != api.OK {
		t.Errorf("Print(%v) = %q, %d, want %q", tree, text, errno, want)
	}
}

// wantNoText holds the error of a tree against the one that it must have. (P1: no text beside it.)
func wantNoText(t *testing.T, want api.Errno, tree ...api.Node) {
	t.Helper()
	text, errno := clause.Print(tree)
	if text != "" || errno != want {
		t.Errorf("Print of %d nodes, %.300v: %.80q, %d, want no text, %d", len(tree), tree, text, errno, want)
	}
}

// wantPrinted holds what is printed of an expression against what must be.
func wantPrinted(t *testing.T, want string, expr ...api.Node) {
	t.Helper()
	wantText(t, "SELECT "+want+" FROM t", selecting(expr...)...)
}

func selecting(expr ...api.Node) []api.Node {
	return append([]api.Node{node(api.Select, "t", 0, 1)}, expr...)
}

// wantAgain holds what is printed of the tree of a text against what must be.
func wantAgain(t *testing.T, text, want string) {
	t.Helper()
	tree, at, errno := clause.Parse(text)
	if errno != api.OK {
		t.Errorf("Parse(%q): %d, %d", text, at, errno)
		return
	}
	wantText(t, want, tree...)
}

func TestPrintExampleThree(t *testing.T) { // P5
	wantAgain(t, `select ((a+b))*(c) , not (a and b), -(-a), (-1)*a from "T" order by a asc`,
		`SELECT (a + b) * c, NOT (a AND b), - -a, -1 * a FROM "T" ORDER BY a`)
}

func TestPrintStatements(t *testing.T) { // P5
	wantText(t, "CREATE TABLE t (a INTEGER, b TEXT NOT NULL, c BOOLEAN)", node(api.Create, "t", 0, 3), node(api.Column, "a", 1, 0), node(api.Column, "b", 6, 0), node(api.Column, "c", 3, 0))
	wantText(t, "CREATE TABLE t (a INTEGER NOT NULL, a TEXT, a BOOLEAN NOT NULL)", node(api.Create, "t", 0, 3), node(api.Column, "a", 5, 0), node(api.Column, "a", 2, 0), node(api.Column, "a", 7, 0))
	wantText(t, "DROP TABLE t", node(api.Drop, "t", 0, 0))
	wantText(t, "INSERT INTO t VALUES (1, a), (NULL)", node(api.Insert, "t", 0, 2), inner(api.Row, 2), literal(1), column("a"), inner(api.Row, 1), inner(api.Null, 0))
	wantText(t, "DELETE FROM t", node(api.Delete, "t", 0, 0))
	wantText(t, "DELETE FROM t WHERE a", node(api.Delete, "t", 0, 1), inner(api.Where, 1), column("a"))
	wantText(t, "UPDATE t SET a = 1", node(api.Update, "t", 0, 1), node(api.Set, "a", 0, 1), literal(1))
	wantText(t, "UPDATE t SET a = b = c, b = TRUE WHERE FALSE", node(api.Update, "t", 0, 3), node(api.Set, "a", 0, 1), inner(api.Eq, 2), column("b"), column("c"), node(api.Set, "b", 0, 1), node(api.Bool, "", 1, 0), inner(api.Where, 1), inner(api.Bool, 0))
	wantText(t, "SELECT * FROM t", node(api.Select, "t", 0, 1), inner(api.Star, 0))
	wantText(t, "SELECT *, a, * FROM t WHERE b ORDER BY a DESC, b, c DESC LIMIT 0", node(api.Select, "t", 0, 8), inner(api.Star, 0), column("a"), inner(api.Star, 0), inner(api.Where, 1), column("b"),
		node(api.Order, "", 1, 1), column("a"), inner(api.Order, 1), column("b"), node(api.Order, "", 1, 1), column("c"), node(api.Limit, "", 0, 0))
	wantText(t, "SELECT a FROM t LIMIT 1000000000", node(api.Select, "t", 0, 2), column("a"), node(api.Limit, "", 1000000000, 0))
}

func TestPrintNames(t *testing.T) { // P5
	bare := []string{"a", "_", "_9", "z_0", "ands", "x" + strings.Repeat("y", 29)}
	quoted := []string{"A", "aB", "9", "9a", "a b", " ", "é", "aé", "a-b", "*", "'", "a.b", "K", "\u212a", "\n", "--", strings.Repeat("é", 15)}
	for _, word := range strings.Fields("AND ASC BOOLEAN BY CREATE DELETE DESC DROP FALSE FROM INSERT INTEGER INTO IS LIMIT NOT NULL OR ORDER SELECT SET TABLE TEXT TRUE UPDATE VALUES WHERE") {
		quoted = append(quoted, word, strings.ToLower(word), word[:1]+strings.ToLower(word[1:]))
	}
	want := map[string]string{`"`: `""""`, `a"b`: `"a""b"`, `""`: `""""""`}
	for _, name := range bare {
		want[name] = name
	}
	for _, name := range quoted {
		want[name] = `"` + name + `"`
	}
	for name, text := range want {
		wantText(t, "DROP TABLE "+text, node(api.Drop, name, 0, 0))
		wantText(t, "CREATE TABLE "+text+" ("+text+" TEXT)", node(api.Create, name, 0, 1), node(api.Column, name, 2, 0))
		wantText(t, "UPDATE "+text+" SET "+text+" = -"+text, node(api.Update, name, 0, 1), node(api.Set, name, 0, 1), inner(api.Neg, 1), column(name))
		wantTree(t, "DROP TABLE "+text, node(api.Drop, name, 0, 0))
	}
}

func TestPrintSingles(t *testing.T) { // P5
	wantPrinted(t, "''", node(api.String, "", 0, 0))
	wantPrinted(t, "'it''s'", node(api.String, "it's", 0, 0))
	wantPrinted(t, "''''''", node(api.String, "''", 0, 0))
	wantPrinted(t, "'A \"é\" (,)\n--'", node(api.String, "A \"é\" (,)\n--", 0, 0))
	wantPrinted(t, "0", literal(0))
	wantPrinted(t, "-1", literal(-1))
	wantPrinted(t, "9223372036854775807", literal(math.MaxInt))
	wantPrinted(t, "-9223372036854775808", literal(math.MinInt))
	wantPrinted(t, "NULL", inner(api.Null, 0))
	wantPrinted(t, "TRUE", node(api.Bool, "", 1, 0))
	wantPrinted(t, "FALSE", node(api.Bool, "", 0, 0))
	// A token that looks like a bracket or a comma is none.
	wantPrinted(t, "'(' || ',' || ')'", inner(api.Cat, 2), inner(api.Cat, 2), node(api.String, "(", 0, 0), node(api.String, ",", 0, 0), node(api.String, ")", 0, 0))
	wantPrinted(t, `"(" + "," - "-"`, inner(api.Sub, 2), inner(api.Add, 2), column("("), column(","), column("-"))
}

func TestPrintMinus(t *testing.T) { // P5
	a := column("a")
	neg := inner(api.Neg, 1)
	wantPrinted(t, "-a", neg, a)
	wantPrinted(t, "- -a", neg, neg, a)
	wantPrinted(t, "- - -a", neg, neg, neg, a)
	wantPrinted(t, "-'-'", neg, node(api.String, "-", 0, 0))
	wantPrinted(t, "-NULL", neg, inner(api.Null, 0))
	wantPrinted(t, "-(-1 * a)", neg, inner(api.Mul, 2), literal(-1), a)
	wantPrinted(t, "-1 * -1", inner(api.Mul, 2), literal(-1), literal(-1))
	wantPrinted(t, "a - -1", inner(api.Sub, 2), a, literal(-1))
	wantPrinted(t, "a - -a", inner(api.Sub, 2), a, neg, a)
	wantPrinted(t, "-a - a", inner(api.Sub, 2), neg, a, a)
	wantPrinted(t, "NOT -a", inner(api.Not, 1), neg, a)
	wantPrinted(t, "NOT -1", inner(api.Not, 1), literal(-1))
	wantPrinted(t, "-(NOT a)", neg, inner(api.Not, 1), a)
	wantPrinted(t, "-(a IS NULL)", neg, inner(api.IsNull, 1), a)
	wantPrinted(t, "-a IS NOT NULL", inner(api.NotNull, 1), neg, a)
	wantPrinted(t, "-1 IS NULL", inner(api.IsNull, 1), literal(-1))
}

func TestPrintBrackets(t *testing.T) { // P5
	for _, text := range []string{
		"a OR b OR c", "a OR (b OR c)", "a AND b OR c AND d", "(a OR b) AND (c OR d)", "NOT (a OR b)", "NOT (a AND b)", "NOT a AND NOT b", "NOT NOT a",
		"(NOT a) = b", "a = (NOT b)", "NOT a = b", "(a = b) = c", "a = (b = c)", "(a IS NULL) = b", "a <> (b IS NOT NULL)", "(a < b) IS NULL", "(a IS NULL) IS NOT NULL", "(NOT a) IS NULL", "(a OR b) IS NULL",
		"a || b || c", "a || (b || c)", "a + b || c - d", "(a || b) + c", "a + (b || c)", "a = b || c", "(a = b) || c", "a || (b = c)",
		"a - b - c", "a - (b - c)", "a + b - (c + d)", "a * b + c / d", "(a + b) * (c - d)", "a % b / c", "a % (b / c)", "a * (b * c)", "-a * -b", "-(a + b)", "-(a * b)", "a * (NOT b)", "((a || b) + c) * d", "-((a OR b) = c)", "(((a OR b) AND c) = d) || e",
	} {
		wantAgain(t, "SELECT "+text+" FROM t", "SELECT "+text+" FROM t")
		wantAgain(t, "select((("+text+")))from t", "SELECT "+text+" FROM t")
		wantAgain(t, "update t set a=("+text+"),b=("+text+")where("+text+")", "UPDATE t SET a = "+text+", b = "+text+" WHERE "+text)
		wantAgain(t, "insert into t values(("+text+"),("+text+"))", "INSERT INTO t VALUES ("+text+", "+text+")")
		wantAgain(t, "select 1 from t order by("+text+")asc,("+text+")desc", "SELECT 1 FROM t ORDER BY "+text+", "+text+" DESC")
	}
}

func TestPrintWrongStatements(t *testing.T) { // P5
	a := column("a")
	where := []api.Node{inner(api.Where, 1), a}
	limit := node(api.Limit, "", 1, 0)
	for _, tree := range [][]api.Node{
		nil, {}, {{}}, {a}, {literal(1)}, {inner(api.Row, 1), a}, where, {limit}, {node(api.Column, "a", 1, 0)}, {node(-1, "t", 0, 0)}, {node(api.Mod+1, "t", 0, 0)}, {node(api.Key, "t", 0, 0)}, {node(math.MaxInt, "t", 0, 0)},
		{node(api.Drop, "t", 0, 1)}, {node(api.Drop, "t", 0, 1), a}, {node(api.Drop, "t", 0, -1)}, {node(api.Drop, "t", 1, 0)}, {node(api.Drop, "t", 0, 0), a}, {node(api.Drop, "t", 0, 0), node(api.Drop, "t", 0, 0)}, {node(api.Drop, "t", 0, 0), {}},
		{node(api.Create, "t", 0, 0)}, {node(api.Create, "t", 0, 1)}, {node(api.Create, "t", 0, -1), node(api.Column, "a", 1, 0)}, {node(api.Create, "t", 0, 2), node(api.Column, "a", 1, 0)}, {node(api.Create, "t", 1, 1), node(api.Column, "a", 1, 0)}, {node(api.Create, "t", 0, 1), a}, {node(api.Create, "t", 0, 1), node(api.Column, "a", 1, 1), a}, {node(api.Create, "t", 0, 1), node(api.Column, "a", 1, -1)},
		{node(api.Insert, "t", 0, 0)}, {node(api.Insert, "t", 0, -1), inner(api.Row, 1), a}, {node(api.Insert, "t", 0, 1), a}, {node(api.Insert, "t", 0, 2), inner(api.Row, 1), a}, {node(api.Insert, "t", 0, 1), inner(api.Row, 0)}, {node(api.Insert, "t", 0, 1), inner(api.Row, -1), a}, {node(api.Insert, "t", 0, 1), inner(api.Row, 2), a}, {node(api.Insert, "t", 0, 1), node(api.Row, "r", 0, 1), a}, {node(api.Insert, "t", 0, 1), node(api.Row, "", 1, 1), a}, {node(api.Insert, "t", 0, 1), inner(api.Row, 1), inner(api.Star, 0)}, {node(api.Insert, "t", 0, 1), inner(api.Row, 1), inner(api.Row, 1), a}, {node(api.Insert, "t", 0, 2), inner(api.Row, 1), a, inner(api.Where, 1), a},
		{node(api.Delete, "t", 0, 1)}, {node(api.Delete, "t", 0, 1), a}, {node(api.Delete, "t", 0, 0), inner(api.Where, 1), a}, {node(api.Delete, "t", 0, -1), inner(api.Where, 1), a}, {node(api.Delete, "t", 0, 1), inner(api.Where, 0)}, {node(api.Delete, "t", 0, 1), inner(api.Where, 2), a, a}, {node(api.Delete, "t", 0, 1), node(api.Where, "w", 0, 1), a}, {node(api.Delete, "t", 0, 1), node(api.Where, "", 1, 1), a}, {node(api.Delete, "t", 0, 2), inner(api.Where, 1), a, inner(api.Where, 1), a}, {node(api.Delete, "t", 0, 1), inner(api.Where, 1), inner(api.Where, 1), a},
		{node(api.Update, "t", 0, 0)}, {node(api.Update, "t", 0, 1), inner(api.Where, 1), a}, {node(api.Update, "t", 0, 1), a}, {node(api.Update, "t", 0, 1), node(api.Set, "", 0, 1), a}, {node(api.Update, "t", 0, 1), node(api.Set, "a", 1, 1), a}, {node(api.Update, "t", 0, 1), node(api.Set, "a", 0, 0)}, {node(api.Update, "t", 0, 1), node(api.Set, "a", 0, 2), a, a}, {node(api.Update, "t", 0, 2), inner(api.Where, 1), a, node(api.Set, "a", 0, 1), a}, {node(api.Update, "t", 0, 3), node(api.Set, "a", 0, 1), a, inner(api.Where, 1), a, inner(api.Where, 1), a},
		{node(api.Select, "t", 0, 0)}, {node(api.Select, "t", 0, -1), a}, {node(api.Select, "t", 0, 2), a}, {node(api.Select, "t", 0, 1), a, a}, {node(api.Select, "t", 0, 1), limit}, {node(api.Select, "t", 0, 1), inner(api.Order, 1), a}, {node(api.Select, "t", 0, 2), inner(api.Where, 1), a, a}, {node(api.Select, "t", 0, 3), a, inner(api.Where, 1), a, a}, {node(api.Select, "t", 0, 3), a, inner(api.Where, 1), a, inner(api.Where, 1), a}, {node(api.Select, "t", 0, 3), a, inner(api.Order, 1), a, inner(api.Where, 1), a}, {node(api.Select, "t", 0, 3), a, limit, inner(api.Where, 1), a}, {node(api.Select, "t", 0, 3), a, limit, inner(api.Order, 1), a}, {node(api.Select, "t", 0, 3), a, limit, limit}, {node(api.Select, "t", 0, 3), a, limit, a}, {node(api.Select, "t", 0, 2), a, node(api.Set, "a", 0, 1), a},
		{node(api.Select, "t", 0, 1), node(api.Star, "s", 0, 0)}, {node(api.Select, "t", 0, 1), node(api.Star, "", 1, 0)}, {node(api.Select, "t", 0, 1), inner(api.Star, 1), a},
		{node(api.Select, "t", 0, 2), a, inner(api.Order, 0)}, {node(api.Select, "t", 0, 2), a, inner(api.Order, 2), a, a}, {node(api.Select, "t", 0, 2), a, node(api.Order, "", 2, 1), a}, {node(api.Select, "t", 0, 2), a, node(api.Order, "", -1, 1), a}, {node(api.Select, "t", 0, 2), a, node(api.Order, "o", 0, 1), a}, {node(api.Select, "t", 0, 2), a, inner(api.Order, 1), inner(api.Star, 0)},
		{node(api.Select, "t", 0, 2), a, node(api.Limit, "", -1, 0)}, {node(api.Select, "t", 0, 2), a, node(api.Limit, "", 1000000001, 0)}, {node(api.Select, "t", 0, 2), a, node(api.Limit, "1", 1, 0)}, {node(api.Select, "t", 0, 2), a, node(api.Limit, "", 1, 1), a}, {node(api.Select, "t", 0, 2), a, node(api.Limit, "", 1, 1), literal(1)},
	} {
		wantNoText(t, api.ErrTree, tree...)
	}
	for _, number := range []int{math.MinInt, -1, 0, 4, 8, 9, 11, math.MaxInt} {
		wantNoText(t, api.ErrTree, node(api.Create, "t", 0, 1), node(api.Column, "a", number, 0))
	}
	for count := range 10 {
		tree := append([]api.Node{node(api.Create, "t", 0, count)}, slices.Repeat([]api.Node{node(api.Column, "a", 1, 0)}, count)...)
		if count < 1 || count > 6 {
			wantNoText(t, api.ErrTree, tree...)
		} else {
			wantText(t, "CREATE TABLE t ("+strings.Repeat("a INTEGER, ", count-1)+"a INTEGER)", tree...)
		}
	}
}

func TestPrintWrongExpressions(t *testing.T) { // P5
	a := column("a")
	for _, expr := range [][]api.Node{
		{inner(api.Neg, 1), literal(1)}, {inner(api.Neg, 1), literal(0)}, {inner(api.Neg, 1), literal(-1)}, {inner(api.Not, 1), inner(api.Neg, 1), literal(1)},
		{node(api.Null, "n", 0, 0)}, {node(api.Null, "", 1, 0)}, {node(api.Null, "", 0, 1), a},
		{node(api.Bool, "", 2, 0)}, {node(api.Bool, "", -1, 0)}, {node(api.Bool, "TRUE", 1, 0)}, {node(api.Bool, "", 1, 1), a},
		{node(api.Number, "1", 1, 0)}, {node(api.Number, "", 1, 1), a}, {node(api.String, "x", 1, 0)}, {node(api.String, "x", 0, 1), a}, {node(api.Name, "a", 1, 0)}, {node(api.Name, "a", 0, 1), a}, {node(api.Name, "a", 0, -1)},
		{inner(api.Where, 1), a}, {inner(api.Row, 1), a}, {node(api.Column, "a", 1, 0)}, {node(api.Set, "a", 0, 1), a}, {node(api.Drop, "t", 0, 0)}, {inner(api.Key, 0)}, {inner(api.Sign, 0)}, {inner(0, 0)}, {inner(-1, 0)}, {inner(api.Mod+1, 2), a, a}, {inner(math.MaxInt, 1), a}, {inner(math.MinInt, 1), a},
	} {
		wantNoText(t, api.ErrTree, selecting(expr...)...)
	}
	for kind := api.Neg; kind <= api.Mod; kind++ {
		kids := 2
		if kind <= api.NotNull {
			kids = 1
		}
		good := append([]api.Node{inner(kind, kids)}, slices.Repeat([]api.Node{a}, kids)...)
		if _, errno := clause.Print(selecting(good...)); errno != api.OK {
			t.Errorf("the kind %d: %d", kind, errno)
		}
		wantNoText(t, api.ErrTree, selecting(inner(kind, kids), inner(api.Star, 0), a)...)
		wantNoText(t, api.ErrTree, selecting(append([]api.Node{node(kind, "x", 0, kids)}, good[1:]...)...)...)
		wantNoText(t, api.ErrTree, selecting(append([]api.Node{node(kind, "", 1, kids)}, good[1:]...)...)...)
		for _, count := range []int{math.MinInt, -kids, -1, 0, 1, 2, 3, 1 << 62, math.MaxInt} {
			if count != kids {
				wantNoText(t, api.ErrTree, selecting(append([]api.Node{inner(kind, count)}, good[1:]...)...)...)
				wantNoText(t, api.ErrTree, selecting(append([]api.Node{inner(kind, count)}, slices.Repeat([]api.Node{a}, max(0, min(count, 5)))...)...)...)
			}
		}
	}
}

func TestPrintWrongKids(t *testing.T) { // P1, P5
	a := column("a")
	for _, count := range []int{math.MinInt, -1 << 40, -1, 1 << 31, 1 << 40, 1 << 62, math.MaxInt} {
		wantNoText(t, api.ErrTree, node(api.Create, "t", 0, count), node(api.Column, "a", 1, 0))
		wantNoText(t, api.ErrTree, node(api.Drop, "t", 0, count))
		wantNoText(t, api.ErrTree, node(api.Insert, "t", 0, count), inner(api.Row, 1), a)
		wantNoText(t, api.ErrTree, node(api.Insert, "t", 0, 1), inner(api.Row, count), a)
		wantNoText(t, api.ErrTree, node(api.Delete, "t", 0, count), inner(api.Where, 1), a)
		wantNoText(t, api.ErrTree, node(api.Delete, "t", 0, 1), inner(api.Where, count), a)
		wantNoText(t, api.ErrTree, node(api.Update, "t", 0, count), node(api.Set, "a", 0, 1), a)
		wantNoText(t, api.ErrTree, node(api.Update, "t", 0, 1), node(api.Set, "a", 0, count), a)
		wantNoText(t, api.ErrTree, node(api.Select, "t", 0, count), a)
		wantNoText(t, api.ErrTree, node(api.Select, "t", 0, count), inner(api.Star, 0))
		wantNoText(t, api.ErrTree, node(api.Select, "t", 0, 1), inner(api.Star, count))
		wantNoText(t, api.ErrTree, node(api.Select, "t", 0, 2), a, inner(api.Order, count), a)
		wantNoText(t, api.ErrTree, node(api.Select, "t", 0, 2), a, node(api.Limit, "", 1, count))
		for kind := api.Null; kind <= api.Name; kind++ {
			wantNoText(t, api.ErrTree, selecting(node(kind, "", 0, count))...)
			wantNoText(t, api.ErrTree, selecting(node(kind, "a", 0, count))...)
		}
	}
}

// withName answers a tree of each kind of node that has a name, with that name.
func withName(name string) [][]api.Node {
	a := column("a")
	return [][]api.Node{
		{node(api.Create, name, 0, 1), node(api.Column, "a", 1, 0)},
		{node(api.Create, "t", 0, 1), node(api.Column, name, 1, 0)},
		{node(api.Drop, name, 0, 0)},
		{node(api.Insert, name, 0, 1), inner(api.Row, 1), a},
		{node(api.Delete, name, 0, 0)},
		{node(api.Update, name, 0, 1), node(api.Set, "a", 0, 1), a},
		{node(api.Update, "t", 0, 1), node(api.Set, name, 0, 1), a},
		{node(api.Select, name, 0, 1), a},
		selecting(column(name)),
		selecting(inner(api.Neg, 1), column(name)),
	}
}

func TestPrintWrongNamesAndStrings(t *testing.T) { // P5
	wrong := []string{"\xff", "a\x80", "\xc3", "\xc0\x80", "\xed\xa0\x80", "\xf4\x90\x80\x80", "\x00", "a\x00b", "a\xffb\x00"}
	for _, bytes := range wrong {
		wantNoText(t, api.ErrTree, selecting(node(api.String, bytes, 0, 0))...)
	}
	for _, name := range append(wrong, "", strings.Repeat("n", 31), strings.Repeat("é", 16), strings.Repeat("n", 29)+"é", strings.Repeat("n", 3000000)) {
		for _, tree := range withName(name) {
			wantNoText(t, api.ErrTree, tree...)
		}
	}
	for _, name := range []string{"n", strings.Repeat("n", 30), strings.Repeat("é", 15), "\ufffd", "\x01", "\x7f", "\U0010ffff"} {
		for _, tree := range withName(name) {
			if text, errno := clause.Print(tree); errno != api.OK {
				t.Errorf("Print(%v) = %q, %d", tree, text, errno)
			}
		}
		wantPrinted(t, "'"+name+"'", node(api.String, name, 0, 0))
	}
}

// deepTrees answers expressions of a depth, each deep in another way.
func deepTrees(depth int) [][]api.Node {
	a := column("a")
	var trees [][]api.Node
	for _, kind := range []int{api.Not, api.Neg, api.IsNull} {
		trees = append(trees, append(slices.Repeat([]api.Node{inner(kind, 1)}, depth-1), a))
	}
	left := slices.Concat(slices.Repeat([]api.Node{inner(api.Add, 2)}, depth-1), slices.Repeat([]api.Node{a}, depth))
	right := append(slices.Repeat([]api.Node{inner(api.Add, 2), a}, depth-1), a)
	return append(trees, left, right)
}

func TestPrintDepth(t *testing.T) { // P5
	a := column("a")
	for depth := 39; depth <= 42; depth++ {
		for i, expr := range deepTrees(depth) {
			for _, tree := range [][]api.Node{
				selecting(expr...),
				slices.Concat([]api.Node{node(api.Select, "t", 0, 4), a, inner(api.Where, 1)}, expr, []api.Node{inner(api.Order, 1)}, expr, []api.Node{node(api.Limit, "", 1, 0)}),
				slices.Concat([]api.Node{node(api.Insert, "t", 0, 2), inner(api.Row, 1), a, inner(api.Row, 2), a}, expr),
				slices.Concat([]api.Node{node(api.Update, "t", 0, 2), node(api.Set, "a", 0, 1), a, inner(api.Where, 1)}, expr),
			} {
				text, errno := clause.Print(tree)
				if depth > 40 {
					wantNoText(t, api.ErrTree, tree...)
				} else if errno != api.OK {
					t.Errorf("the expression %d of depth %d: %q, %d", i, depth, text, errno)
				} else {
					wantTree(t, text, tree...)
				}
			}
		}
	}
	for _, kind := range []int{api.Not, api.Add} {
		endless := slices.Repeat([]api.Node{inner(kind, kind/api.Or+1)}, 1000000)
		endless[0] = node(api.Select, "t", 0, 1)
		wantNoText(t, api.ErrTree, endless...)
	}
}

func TestPrintLength(t *testing.T) { // P5
	text := "SELECT '' FROM t"
	for _, c := range []struct {
		piece string
		bytes int
	}{{"x", 1}, {"'", 2}, {"é", 2}, {"😀", 4}} {
		room := api.MaxText - len(text)
		fits := strings.Repeat("x", room%c.bytes) + strings.Repeat(c.piece, room/c.bytes)
		if text, errno := clause.Print(selecting(node(api.String, fits, 0, 0))); len(text) != 2000 || errno != api.OK {
			t.Errorf("%q: %d bytes, %d", c.piece, len(text), errno)
		}
		wantNoText(t, api.ErrLong, selecting(node(api.String, fits+"x", 0, 0))...)
		wantNoText(t, api.ErrLong, selecting(node(api.String, strings.Repeat(c.piece, 1000000), 0, 0))...)
	}
	// Each row has five bytes but for the first.
	rows := func(count int) []api.Node {
		tree := []api.Node{node(api.Insert, "t", 0, count)}
		for range count {
			tree = append(tree, inner(api.Row, 1), literal(1))
		}
		return tree
	}
	if text, errno := clause.Print(rows(396)); len(text) != len("INSERT INTO t VALUES (1)")+395*5 || errno != api.OK {
		t.Errorf("396 rows: %d bytes, %d", len(text), errno)
	}
	wantNoText(t, api.ErrLong, rows(397)...)
	wantNoText(t, api.ErrLong, rows(300000)...)
	// That it is not well-formed counts first, wherever it shows.
	wantNoText(t, api.ErrTree, append(rows(397), column("a"))...)
	wantNoText(t, api.ErrTree, append(rows(300000)[:599999], inner(api.Star, 0), literal(1))...)
}

func TestPrintLeavesItsTree(t *testing.T) { // P2
	for _, text := range []string{"SELECT a + 1, * FROM t WHERE b ORDER BY c LIMIT 5", "INSERT INTO t VALUES ('x', -1), (NULL)", "CREATE TABLE t (a TEXT NOT NULL)", "UPDATE t SET a = - -b", "DELETE FROM t"} {
		tree, _, _ := clause.Parse(text)
		whole := append(tree, node(7, "spare", 7, 7), node(8, "spare", 8, 8))
		kept := slices.Clone(whole)
		wantText(t, text, whole[:len(tree)]...)
		wantNoText(t, api.ErrTree, whole...)
		wantNoText(t, api.ErrTree, whole[1:len(tree)]...)
		if !slices.Equal(whole, kept) {
			t.Errorf("%q: the tree was changed", text)
		}
		printed, _ := clause.Print(tree)
		fillTree(tree, -1)
		if printed != text {
			t.Errorf("%q: the text was changed with the tree: %q", text, printed)
		}
	}
}
