package clause_test

import (
	"math"
	"slices"
	"strconv"
	"strings"
	"sync"
	"testing"

	"clause/api"
	"clause/clause"
)

func node(kind int, text string, number, kids int) api.Node {
	return api.Node{Kind: kind, Text: text, Int: number, Kids: kids}
}

// inner makes a node with nothing but kids.
func inner(kind, kids int) api.Node { return node(kind, "", 0, kids) }

func column(text string) api.Node { return node(api.Name, text, 0, 0) }
func literal(number int) api.Node { return node(api.Number, "", number, 0) }

// wantTree holds the tree of a text against the one that it must have. (P1: the place beside it is 0.)
func wantTree(t *testing.T, text string, want ...api.Node) {
	t.Helper()
	tree, at, errno := clause.Parse(text)
	if !slices.Equal(tree, want) || at != 0 || errno != api.OK {
		t.Errorf("Parse(%.80q) = %v, %d, %d, want %v, 0, 0", text, tree, at, errno, want)
	}
}

// wantExpr holds the tree of an expression against the one that it must have, wherever one may stand.
func wantExpr(t *testing.T, text string, want ...api.Node) {
	t.Helper()
	under := func(nodes ...api.Node) []api.Node { return append(nodes, want...) }
	wantTree(t, "SELECT "+text+" FROM t", under(node(api.Select, "t", 0, 1))...)
	wantTree(t, "DELETE FROM t WHERE "+text, under(node(api.Delete, "t", 0, 1), inner(api.Where, 1))...)
	wantTree(t, "UPDATE t SET a = "+text, under(node(api.Update, "t", 0, 1), node(api.Set, "a", 0, 1))...)
	wantTree(t, "INSERT INTO t VALUES ("+text+")", under(node(api.Insert, "t", 0, 1), inner(api.Row, 1))...)
	wantTree(t, "SELECT * FROM t ORDER BY "+text, under(node(api.Select, "t", 0, 2), inner(api.Star, 0), inner(api.Order, 1))...)
}

// wantRefusal holds the error of a text and its place against those that it must have. (P1: no tree beside them.)
func wantRefusal(t *testing.T, text string, wantAt int, want api.Errno) {
	t.Helper()
	tree, at, errno := clause.Parse(text)
	if tree != nil || at != wantAt || errno != want {
		t.Errorf("Parse(%.80q) = %v, %d, %d, want nil, %d, %d", text, tree, at, errno, wantAt, want)
	}
}

// wantRefusals takes texts in which a ^ stands ahead of the place of the error.
func wantRefusals(t *testing.T, want api.Errno, marked ...string) {
	t.Helper()
	for _, text := range marked {
		before, behind, _ := strings.Cut(text, "^")
		wantRefusal(t, before+behind, len(before), want)
	}
}

func TestParseExampleTwo(t *testing.T) { // P4
	wantTree(t, "delete from T", node(api.Delete, "t", 0, 0))
	wantTree(t, "SELECT 1 - -2 FROM t", node(api.Select, "t", 0, 1), inner(api.Sub, 2), literal(1), literal(-2))
	wantTree(t, "SELECT -(-2) FROM t", node(api.Select, "t", 0, 1), literal(2))
	wantRefusal(t, "SELECT a = b = c FROM t", 13, api.ErrSyntax)
	wantRefusal(t, "SELECT a = NOT b FROM t", 11, api.ErrSyntax)
	wantRefusal(t, "DROP TABLE", 10, api.ErrSyntax)
}

func TestParseCreate(t *testing.T) { // P4
	wantTree(t, "CREATE TABLE t (a INTEGER)", node(api.Create, "t", 0, 1), node(api.Column, "a", 1, 0))
	wantTree(t, "create Table \"T\" ( A text , \"B b\" Boolean )", node(api.Create, "T", 0, 2), node(api.Column, "a", 2, 0), node(api.Column, "B b", 3, 0))
	wantTree(t, "CREATE TABLE t (a INTEGER NOT NULL, b TEXT NOT NULL, c BOOLEAN NOT NULL)",
		node(api.Create, "t", 0, 3), node(api.Column, "a", 5, 0), node(api.Column, "b", 6, 0), node(api.Column, "c", 7, 0))
	wantTree(t, "CREATE TABLE a (a TEXT, a TEXT)", node(api.Create, "a", 0, 2), node(api.Column, "a", 2, 0), node(api.Column, "a", 2, 0))
	six := []api.Node{node(api.Create, "t", 0, 6)}
	for _, name := range strings.Fields("a b c d e f") {
		six = append(six, node(api.Column, name, 1, 0))
	}
	wantTree(t, "CREATE TABLE t (a INTEGER, b INTEGER, c INTEGER, d INTEGER, e INTEGER, f INTEGER)", six...)
}

func TestParseDropInsertDelete(t *testing.T) { // P4
	wantTree(t, "DROP TABLE t", node(api.Drop, "t", 0, 0))
	wantTree(t, "dRoP\ttAbLe -- of\n\"drop\"", node(api.Drop, "drop", 0, 0))
	wantTree(t, "INSERT INTO t VALUES (1)", node(api.Insert, "t", 0, 1), inner(api.Row, 1), literal(1))
	wantTree(t, "insert into t values (1,'x',a),(NULL),(TRUE,FALSE)", node(api.Insert, "t", 0, 3),
		inner(api.Row, 3), literal(1), node(api.String, "x", 0, 0), column("a"),
		inner(api.Row, 1), inner(api.Null, 0),
		inner(api.Row, 2), node(api.Bool, "", 1, 0), node(api.Bool, "", 0, 0))
	wantTree(t, "DELETE FROM t", node(api.Delete, "t", 0, 0))
	wantTree(t, "DELETE FROM t WHERE a", node(api.Delete, "t", 0, 1), inner(api.Where, 1), column("a"))
}

func TestParseUpdate(t *testing.T) { // P4
	wantTree(t, "UPDATE t SET a = 1", node(api.Update, "t", 0, 1), node(api.Set, "a", 0, 1), literal(1))
	wantTree(t, "UPDATE t SET a = a, a = b = c WHERE a = b", node(api.Update, "t", 0, 3),
		node(api.Set, "a", 0, 1), column("a"),
		node(api.Set, "a", 0, 1), inner(api.Eq, 2), column("b"), column("c"),
		inner(api.Where, 1), inner(api.Eq, 2), column("a"), column("b"))
}

func TestParseSelect(t *testing.T) { // P4
	star := inner(api.Star, 0)
	wantTree(t, "SELECT * FROM t", node(api.Select, "t", 0, 1), star)
	wantTree(t, "SELECT *, a, *, 2 * 3 FROM t", node(api.Select, "t", 0, 4), star, column("a"), star, inner(api.Mul, 2), literal(2), literal(3))
	wantTree(t, "SELECT a FROM t WHERE b ORDER BY c LIMIT 5", node(api.Select, "t", 0, 4),
		column("a"), inner(api.Where, 1), column("b"), inner(api.Order, 1), column("c"), node(api.Limit, "", 5, 0))
	wantTree(t, "SELECT * FROM t ORDER BY a DESC, b ASC, c, d DESC", node(api.Select, "t", 0, 5), star,
		node(api.Order, "", 1, 1), column("a"), inner(api.Order, 1), column("b"),
		inner(api.Order, 1), column("c"), node(api.Order, "", 1, 1), column("d"))
	for text, number := range map[string]int{"0": 0, "000": 0, "1": 1, "1000000000": 1000000000, "0001000000000": 1000000000} {
		wantTree(t, "SELECT * FROM t LIMIT "+text, node(api.Select, "t", 0, 2), star, node(api.Limit, "", number, 0))
	}
}

func TestParseSingles(t *testing.T) { // P4
	wantExpr(t, "NULL", inner(api.Null, 0))
	wantExpr(t, "true", node(api.Bool, "", 1, 0))
	wantExpr(t, "False", node(api.Bool, "", 0, 0))
	wantExpr(t, "007", literal(7))
	wantExpr(t, "9223372036854775807", literal(math.MaxInt))
	wantExpr(t, "''", node(api.String, "", 0, 0))
	wantExpr(t, "'SELECT'", node(api.String, "SELECT", 0, 0))
	wantExpr(t, "'"+strings.Repeat("x", 101)+"'", node(api.String, strings.Repeat("x", 101), 0, 0))
	wantExpr(t, "Ab", column("ab"))
	wantExpr(t, `"NULL"`, column("NULL"))
	wantExpr(t, `"*"`, column("*"))
	wantExpr(t, "(((a)))", column("a"))
	wantExpr(t, strings.Repeat("(", 900)+"a"+strings.Repeat(")", 900), column("a"))
}

// levels are the operators with two operands, by rising level.
var levels = [][]struct {
	sign string
	kind int
}{
	{{"OR", api.Or}},
	{{"AND", api.And}},
	{{"=", api.Eq}, {"<>", api.Ne}, {"<", api.Lt}, {"<=", api.Le}, {">", api.Gt}, {">=", api.Ge}},
	{{"||", api.Cat}},
	{{"+", api.Add}, {"-", api.Sub}},
	{{"*", api.Mul}, {"/", api.Div}, {"%", api.Mod}},
}

// TestParsePairs takes any two operators behind one another.
func TestParsePairs(t *testing.T) { // P4
	a, b, c := column("a"), column("b"), column("c")
	for i, lower := range levels {
		for _, x := range lower {
			wantExpr(t, "a "+x.sign+" b", inner(x.kind, 2), a, b)
			wantExpr(t, "a "+x.sign+" (b "+x.sign+" c)", inner(x.kind, 2), a, inner(x.kind, 2), b, c)
			wantExpr(t, "(a "+x.sign+" b) "+x.sign+" c", inner(x.kind, 2), inner(x.kind, 2), a, b, c)
			for _, y := range lower {
				if i == 2 {
					wantRefusals(t, api.ErrSyntax, "SELECT a "+x.sign+" b ^"+y.sign+" c FROM t")
				} else {
					wantExpr(t, "a "+x.sign+" b "+y.sign+" c", inner(y.kind, 2), inner(x.kind, 2), a, b, c)
				}
			}
			for _, higher := range levels[i+1:] {
				for _, y := range higher {
					wantExpr(t, "a "+x.sign+" b "+y.sign+" c", inner(x.kind, 2), a, inner(y.kind, 2), b, c)
					wantExpr(t, "a "+y.sign+" b "+x.sign+" c", inner(x.kind, 2), inner(y.kind, 2), a, b, c)
				}
			}
		}
	}
}

func TestParseNot(t *testing.T) { // P4
	a, b := column("a"), column("b")
	not := inner(api.Not, 1)
	wantExpr(t, "NOT a", not, a)
	wantExpr(t, "NOT NOT NOT a", not, not, not, a)
	wantExpr(t, "NOT (a OR b)", not, inner(api.Or, 2), a, b)
	wantExpr(t, "NOT a IS NULL", not, inner(api.IsNull, 1), a)
	wantExpr(t, "NOT a IS NOT NULL", not, inner(api.NotNull, 1), a)
	wantExpr(t, "NOT -a", not, inner(api.Neg, 1), a)
	wantExpr(t, "(NOT a) IS NULL", inner(api.IsNull, 1), not, a)
	for i, level := range levels {
		for _, x := range level {
			if i < 2 {
				wantExpr(t, "NOT a "+x.sign+" b", inner(x.kind, 2), not, a, b)
				wantExpr(t, "a "+x.sign+" NOT b", inner(x.kind, 2), a, not, b)
			} else {
				wantExpr(t, "NOT a "+x.sign+" b", not, inner(x.kind, 2), a, b)
				wantRefusals(t, api.ErrSyntax, "SELECT a "+x.sign+" ^NOT b FROM t")
			}
		}
	}
}

func TestParseIs(t *testing.T) { // P4
	a, b := column("a"), column("b")
	for text, kind := range map[string]int{"IS NULL": api.IsNull, "is not null": api.NotNull} {
		is := inner(kind, 1)
		wantExpr(t, "a "+text, is, a)
		wantExpr(t, "(a "+text+") "+text, is, is, a)
		wantExpr(t, "a || b "+text, is, inner(api.Cat, 2), a, b)
		wantExpr(t, "-a "+text, is, inner(api.Neg, 1), a)
		wantExpr(t, "-1 "+text, is, literal(-1))
		wantExpr(t, "a "+text+" AND b "+text, inner(api.And, 2), is, a, is, b)
		wantRefusals(t, api.ErrSyntax, "SELECT a "+text+" ^IS NULL FROM t", "SELECT a "+text+" ^= b FROM t", "SELECT a = b ^"+text+" FROM t", "SELECT a "+text+" ^+ b FROM t")
	}
}

func TestParseMinus(t *testing.T) { // P4
	a, b := column("a"), column("b")
	neg := inner(api.Neg, 1)
	wantExpr(t, "-a", neg, a)
	wantExpr(t, "- - -a", neg, neg, neg, a)
	wantExpr(t, "-(a)", neg, a)
	wantExpr(t, "-a * b", inner(api.Mul, 2), neg, a, b)
	wantExpr(t, "-(a * b)", neg, inner(api.Mul, 2), a, b)
	wantExpr(t, "a * -b", inner(api.Mul, 2), a, neg, b)
	wantExpr(t, "a - -b", inner(api.Sub, 2), a, neg, b)
	wantExpr(t, "a--\n-b", inner(api.Sub, 2), a, b)
	wantExpr(t, "-(a = b)", neg, inner(api.Eq, 2), a, b)
	wantExpr(t, "-(NOT a)", neg, inner(api.Not, 1), a)
	wantExpr(t, "-NULL", neg, inner(api.Null, 0))
	wantExpr(t, "-'1'", neg, node(api.String, "1", 0, 0))
	wantExpr(t, "-'9223372036854775808'", neg, node(api.String, "9223372036854775808", 0, 0))
	wantExpr(t, `-"9223372036854775808"`, neg, column("9223372036854775808"))
	wantExpr(t, "-(1 + 2)", neg, inner(api.Add, 2), literal(1), literal(2))
	wantExpr(t, "-(-a)", neg, neg, a)
	wantRefusals(t, api.ErrSyntax, "SELECT -^NOT a FROM t", "SELECT a -^, b FROM t", "SELECT a - ^", "SELECT -^* FROM t", "SELECT ^+a FROM t")
}

func TestParseNegativeNumbers(t *testing.T) { // P4
	for text, number := range map[string]int{
		"-1": -1, "- 1": -1, "-(1)": -1, "-((1))": -1, "(-(1))": -1, "-0": 0, "- -0": 0, "-000": 0,
		"- -1": 1, "-(-1)": 1, "-(-(-1))": -1, "- - - -7": 7, "- -- so\n7": -7,
		"-9223372036854775807":                                      -math.MaxInt,
		"-(9223372036854775807)":                                    -math.MaxInt,
		"- - 9223372036854775807":                                   math.MaxInt,
		"-9223372036854775808":                                      math.MinInt,
		"((-9223372036854775808))":                                  math.MinInt,
		"-009223372036854775808":                                    math.MinInt,
		"- -- so\n \t9223372036854775808":                           math.MinInt,
		strings.Repeat("- ", 700) + "1":                             1,
		strings.Repeat("-(", 400) + "(3" + strings.Repeat(")", 401): 3,
	} {
		wantExpr(t, text, literal(number))
	}
	wantExpr(t, "2 - 1", inner(api.Sub, 2), literal(2), literal(1))
	wantExpr(t, "2 -1", inner(api.Sub, 2), literal(2), literal(1))
	wantExpr(t, "-2 * -3", inner(api.Mul, 2), literal(-2), literal(-3))
	wantExpr(t, "1 - -9223372036854775808", inner(api.Sub, 2), literal(1), literal(math.MinInt))
	wantExpr(t, "-9223372036854775808 % -1", inner(api.Mod, 2), literal(math.MinInt), literal(-1))
	wantExpr(t, "-(-9223372036854775808 + 1)", inner(api.Neg, 1), inner(api.Add, 2), literal(math.MinInt), literal(1))
}

func TestParseNumbersThatMayNotBe(t *testing.T) { // P4
	wantRefusals(t, api.ErrNumber,
		"SELECT ^9223372036854775808 FROM t",
		"SELECT ^009223372036854775808 FROM t",
		"SELECT (^9223372036854775808) FROM t",
		"SELECT -(^9223372036854775808) FROM t",
		"SELECT a - ^9223372036854775808 FROM t",
		"SELECT (a) -^9223372036854775808 FROM t",
		"SELECT 1 -^9223372036854775808 FROM t",
		"SELECT ^9223372036854775808",
		"INSERT INTO t VALUES (1, ^9223372036854775808, -9223372036854775808)",
		"SELECT ^-(-9223372036854775808) FROM t",
		"SELECT ^- -9223372036854775808 FROM t",
		"SELECT -(- ^-((-9223372036854775808))) FROM t",
		"SELECT a * - ^- -9223372036854775808 FROM t",
		"SELECT a - ^-(-9223372036854775808) b",
		"SELECT ^-(-9223372036854775808)",
		"SELECT * FROM t LIMIT ^1000000001",
		"SELECT * FROM t LIMIT ^1000000001 x",
		"SELECT * FROM t LIMIT ^9223372036854775807",
		"SELECT * FROM t LIMIT ^9223372036854775808",
	)
	// The bracket is not closed, so the first - has no operand yet.
	wantRefusals(t, api.ErrSyntax, "SELECT -(-9223372036854775808 ^FROM t", "SELECT -(-9223372036854775808^", "SELECT * FROM t LIMIT ^-1", "SELECT * FROM t LIMIT ^(1)", "SELECT * FROM t LIMIT ^'1'", "SELECT * FROM t LIMIT ^a", "SELECT * FROM t LIMIT 1 ^+ 1")
	wantRefusals(t, api.ErrSyntax, "^9223372036854775808", "SELECT a ^9223372036854775808 FROM t", "DROP TABLE ^9223372036854775808")
}

func TestParseNames(t *testing.T) { // P4
	fits, long := strings.Repeat("n", 30), strings.Repeat("n", 31)
	for _, form := range []string{
		"CREATE TABLE ^ (a TEXT)", "CREATE TABLE t (a TEXT, ^ TEXT)", "DROP TABLE ^", "INSERT INTO ^ VALUES (1)", "INSERT INTO t VALUES (1, ^)",
		"DELETE FROM ^", "DELETE FROM t WHERE ^ = 1", "UPDATE ^ SET a = 1", "UPDATE t SET ^ = 1", "UPDATE t SET a = ^", "UPDATE t SET a = 1 WHERE a <> ^",
		"SELECT ^ FROM t", "SELECT a FROM ^", "SELECT -(^) FROM t", "SELECT a FROM t ORDER BY a, ^ DESC",
	} {
		before, behind, _ := strings.Cut(form, "^")
		for _, name := range []string{fits, `"` + fits + `"`, `"` + strings.Repeat("é", 15) + `"`, `"` + strings.Repeat(`""`, 30) + `"`} {
			if _, at, errno := clause.Parse(before + name + behind); at != 0 || errno != api.OK {
				t.Errorf("Parse(%q): %d, %d", before+name+behind, at, errno)
			}
		}
		for _, name := range []string{long, `"` + long + `"`, `"` + strings.Repeat("é", 15) + `x"`, `"` + strings.Repeat(`""`, 31) + `"`, strings.Repeat("n", 1900)} {
			wantRefusal(t, before+name+behind, len(before), api.ErrName)
		}
		for _, other := range []string{"select", "INTEGER", ";", ",", "="} {
			wantRefusal(t, before+other+behind, len(before), api.ErrSyntax)
		}
	}
	wantRefusals(t, api.ErrSyntax, "^"+long, "DROP ^"+long, "DROP TABLE t ^"+long, "SELECT a ^"+long+" FROM t", "SELECT * FROM t LIMIT ^"+long)
	wantRefusals(t, api.ErrName, "SELECT ^"+long, "SELECT ^"+long+" b", "DELETE FROM ^"+long+" "+long)
}

func TestParseSevenColumns(t *testing.T) { // P4
	six := "CREATE TABLE t (" + strings.Repeat("a TEXT NOT NULL, ", 5) + "f INTEGER"
	wantRefusals(t, api.ErrSyntax, six+", ^g TEXT)", six+", ^g", six+", ^g g g", six+",^", six+", ^)", six+", ^'g'", six+" ^g", six+"^", six+", ^"+strings.Repeat("g", 30)+" TEXT, h TEXT)")
	wantRefusals(t, api.ErrName, six+", ^"+strings.Repeat("g", 31)+" TEXT)")
	if tree, _, errno := clause.Parse(six + ")"); len(tree) != 7 || errno != api.OK {
		t.Errorf("six columns: %v, %d", tree, errno)
	}
}

func TestParseWrongStatements(t *testing.T) { // P4
	wantRefusals(t, api.ErrSyntax,
		"^", "  ^", "-- nothing^", "^x", "^;", "^1", "^'SELECT' * FROM t", "^\"SELECT\" * FROM t", "^TABLE t",
		"CREATE^", "CREATE ^t", "CREATE TABLE ^(a TEXT)", "CREATE TABLE t^", "CREATE TABLE t (^)", "CREATE TABLE t (^TEXT)", "CREATE TABLE t (a^)", "CREATE TABLE t (a ^b)", "CREATE TABLE t (a ^\"TEXT\")", "CREATE TABLE t (a TEXT ^NULL)", "CREATE TABLE t (a TEXT NOT^)", "CREATE TABLE t (a TEXT NOT NULL ^NOT NULL)", "CREATE TABLE t (a TEXT^", "CREATE TABLE t (a TEXT,^)", "CREATE TABLE t (a TEXT) ^b", "CREATE TABLE t (a TEXT)^;",
		"DROP^", "DROP TABLE ^", "DROP ^t", "DROP TABLE t ^u", "DROP TABLE t^, u", "DROP TABLE t^;", "DROP TABLE ^(t)",
		"INSERT ^t", "INSERT INTO t^", "INSERT INTO t ^(a) VALUES (1)", "INSERT INTO t VALUES^", "INSERT INTO t VALUES ^1", "INSERT INTO t VALUES (^)", "INSERT INTO t VALUES (^*)", "INSERT INTO t VALUES (1,^)", "INSERT INTO t VALUES (1^", "INSERT INTO t VALUES (1),^", "INSERT INTO t VALUES (1), ^2", "INSERT INTO t VALUES (1) ^(2)", "INSERT INTO t VALUES (1) ^WHERE a",
		"DELETE ^t", "DELETE FROM^", "DELETE FROM t WHERE^", "DELETE FROM t ^a", "DELETE FROM t WHERE a^, b", "DELETE FROM t WHERE a ^WHERE b", "DELETE FROM t ^ORDER BY a",
		"UPDATE^", "UPDATE t^", "UPDATE t ^a = 1", "UPDATE t SET^", "UPDATE t SET a^", "UPDATE t SET a ^<> 1", "UPDATE t SET ^(a) = 1", "UPDATE t SET a = 1, ^WHERE b", "UPDATE t SET a = ^", "UPDATE t SET a = b = c ^= d", "UPDATE t SET a = 1 ^LIMIT 1",
		"SELECT^", "SELECT ^FROM t", "SELECT a^", "SELECT a ^b FROM t", "SELECT a, ^FROM t", "SELECT * ^* FROM t", "SELECT (^*) FROM t", "SELECT * ^+ 1 FROM t", "SELECT * FROM^", "SELECT * FROM t^, u", "SELECT * FROM t ^u", "SELECT * FROM ^(t)", "SELECT * FROM t WHERE^", "SELECT * FROM t WHERE ^*", "SELECT * FROM t ORDER^", "SELECT * FROM t ORDER ^a", "SELECT * FROM t ORDER BY^", "SELECT * FROM t ORDER BY ^*", "SELECT * FROM t ORDER BY a ASC ^DESC", "SELECT * FROM t ORDER BY ^DESC", "SELECT * FROM t ORDER BY a,^", "SELECT * FROM t LIMIT^", "SELECT * FROM t LIMIT 1 ^LIMIT 1", "SELECT * FROM t LIMIT 1 ^WHERE a", "SELECT * FROM t ORDER BY a ^WHERE b", "SELECT * FROM t WHERE a ^WHERE b", "SELECT * FROM t LIMIT 1 ^ORDER BY a",
		"SELECT (^) FROM t", "SELECT (a ^FROM t", "SELECT a^) FROM t", "SELECT (a^, b) FROM t", "SELECT a + ^FROM t", "SELECT a ^NOT b FROM t", "SELECT a ^\"OR\" b FROM t", "SELECT a ^'+' b FROM t", "SELECT a IS ^1 FROM t", "SELECT a IS NOT ^TRUE FROM t", "SELECT a IS NOT ^NOT NULL FROM t", "SELECT a IS ^\"NULL\" FROM t", "SELECT NOT ^FROM t", "SELECT a OR ^AND b FROM t", "SELECT ^ASC FROM t", "SELECT ^TEXT FROM t", "SELECT 1 ^2 FROM t", "SELECT 'a' ^'b' FROM t", "SELECT a ^(b) FROM t", "SELECT ^|| a FROM t",
	)
}

func TestParseErrorsOfTokens(t *testing.T) { // P4
	wantRefusals(t, api.ErrToken, "SELECT a b c ^?", "^?", "DROP TABLE ^\"\"", "x y ^'z", "SELECT 9223372036854775808 ^1a", "SELECT ^99999999999999999999x FROM t")
	wantRefusals(t, api.ErrNumber, "x ^9223372036854775809", "SELECT ^9223372036854775809 FROM")
	wantTree(t, "DROP TABLE t"+strings.Repeat(" ", 1988), node(api.Drop, "t", 0, 0))
	wantTree(t, strings.Repeat("\n", 1988)+"DROP TABLE t", node(api.Drop, "t", 0, 0))
	wantRefusal(t, "DROP TABLE"+strings.Repeat(" ", 1990), 2000, api.ErrSyntax)
	wantRefusal(t, "DROP TABLE t"+strings.Repeat(" ", 1989), 0, api.ErrLong)
	wantRefusal(t, strings.Repeat("?", 2001), 0, api.ErrLong)
	wantRefusal(t, strings.Repeat("(", 4000000), 0, api.ErrLong)
}

func TestParseFirstPlaceCounts(t *testing.T) { // P4
	long := strings.Repeat("n", 31)
	wantRefusals(t, api.ErrSyntax, "SELECT a ^b, "+long+", 9223372036854775808 FROM t", "SELECT a ^b - - -9223372036854775808 FROM t")
	wantRefusals(t, api.ErrName, "SELECT ^"+long+", 9223372036854775808 b FROM t", "SELECT -(^"+long+" b")
	wantRefusals(t, api.ErrNumber, "SELECT ^9223372036854775808, "+long+" b FROM t", "SELECT ^- -9223372036854775808 b "+long+" FROM t", "SELECT ^-(-9223372036854775808), 9223372036854775808")
}

// deepTexts answers expressions of a depth, each deep in another way.
func deepTexts(depth int) []string {
	return []string{
		strings.Repeat("a+", depth-1) + "a",
		strings.Repeat("a OR ", depth-1) + "a",
		strings.Repeat("NOT ", depth-1) + "a",
		strings.Repeat("- ", depth-1) + "a",
		strings.Repeat("a*(", depth-1) + "a" + strings.Repeat(")", depth-1),
		strings.Repeat("(", depth-1) + "a" + strings.Repeat(" IS NULL)", depth-1),
		strings.Repeat("-(1+", (depth-1)/2) + strings.Repeat("-(", (depth-1)%2) + "a" + strings.Repeat(")", depth/2),
	}
}

func TestParseDepth(t *testing.T) { // P4
	for _, form := range []string{"SELECT ^ FROM t", "SELECT 1, (^), a FROM t", "SELECT * FROM t WHERE ^", "SELECT * FROM t ORDER BY a, ^ DESC LIMIT 1", "INSERT INTO t VALUES (1), (2, ^)", "DELETE FROM t WHERE ^", "UPDATE t SET a = ^, b = 1", "UPDATE t SET a = 1 WHERE ^"} {
		before, behind, _ := strings.Cut(form, "^")
		for _, e := range deepTexts(40) {
			if _, at, errno := clause.Parse(before + e + behind); at != 0 || errno != api.OK {
				t.Errorf("Parse(%q): %d, %d", before+e+behind, at, errno)
			}
		}
		for _, e := range append(deepTexts(41), deepTexts(42)...) {
			text := before + e + behind
			wantRefusal(t, text, 0, api.ErrDeep)
			wantRefusal(t, text+" ?", len(text)+1, api.ErrToken)
			wantRefusal(t, text+" ;", len(text)+1, api.ErrSyntax)
		}
	}
	deep := "SELECT " + deepTexts(41)[0]
	wantRefusals(t, api.ErrSyntax, deep+"^", deep+" FROM^")
	wantRefusals(t, api.ErrName, deep+" FROM ^"+strings.Repeat("t", 31))
	wantRefusals(t, api.ErrNumber, deep+", ^9223372036854775808 FROM t", deep+" FROM t LIMIT ^1000000001")
	wantRefusal(t, "SELECT "+strings.Repeat("NOT ", 490)+"a FROM t", 0, api.ErrDeep)
	wantRefusal(t, "SELECT "+strings.Repeat("a+", 990)+"a FROM t", 0, api.ErrDeep)
}

func TestParseManyKids(t *testing.T) { // P4
	tree, at, errno := clause.Parse("SELECT " + strings.Repeat("1,", 990) + "1 FROM t")
	if len(tree) != 992 || tree[0] != node(api.Select, "t", 0, 991) || at != 0 || errno != api.OK {
		t.Errorf("%d nodes, %d, %d", len(tree), at, errno)
	}
}

// fillTree writes into all that belongs to a tree, its spare room too.
func fillTree(tree []api.Node, mark int) {
	whole := tree[:cap(tree)]
	for i := range whole {
		whole[i] = node(mark, "filled", mark, mark)
	}
}

func TestTreesShareNothing(t *testing.T) { // P2
	items := "0"
	for length := range 40 {
		text := "SELECT " + items + " FROM t"
		before, _, _ := clause.Parse(text)
		kept := slices.Clone(before)
		filled, _, _ := clause.Parse(text)
		after, _, _ := clause.Parse(text)
		fillTree(filled, -1)
		if !slices.Equal(before, kept) || !slices.Equal(after, kept) {
			t.Fatalf("%d items: another tree was changed", length)
		}
		wantTree(t, text, kept...)
		fillTree(after, -2)
		clause.Print(before)
		for _, n := range filled[:cap(filled)] {
			if n.Kind != -1 {
				t.Fatalf("%d items: a tree that its owner filled was changed", length)
			}
		}
		items += ", a + " + strconv.Itoa(length)
	}
}

func TestManyParsesAtOnce(t *testing.T) { // P1, P2
	var all sync.WaitGroup
	for range 8 {
		all.Go(func() {
			for range 200 {
				wantExpr(t, "a - -2", inner(api.Sub, 2), column("a"), literal(-2))
				wantRefusal(t, "DROP TABLE", 10, api.ErrSyntax)
			}
		})
	}
	all.Wait()
}
