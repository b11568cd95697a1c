package clause_test

import (
	"fmt"
	"slices"
	"strconv"
	"strings"
	"testing"

	"clause/api"
	"clause/clause"
)

// toldValue writes a value so that no two are written alike, not even if a field is filled that must be empty.
func toldValue(v api.Value) string {
	switch v {
	case api.Value{Kind: api.Null}:
		return "NULL"
	case api.Value{Kind: api.Bool, Int: 1}:
		return "TRUE"
	case api.Value{Kind: api.Bool}:
		return "FALSE"
	case api.Value{Kind: api.Number, Int: v.Int}:
		return strconv.Itoa(v.Int)
	case api.Value{Kind: api.String, Text: v.Text}:
		return "'" + v.Text + "'"
	}
	return fmt.Sprintf("%#v", v)
}

// toldAnswer writes the rows of an answer, with | between them.
func toldAnswer(a api.Answer) string {
	var rows []string
	for row := range slices.Chunk(a.Cells, max(a.Width, 1)) {
		var cells []string
		for _, v := range row {
			cells = append(cells, toldValue(v))
		}
		rows = append(rows, strings.Join(cells, " "))
	}
	return strings.Join(rows, " | ")
}

// storeOf makes a store by statements that must be right.
func storeOf(t *testing.T, texts ...string) *clause.Store {
	t.Helper()
	s := clause.New()
	for _, text := range texts {
		if _, errno := s.Run(text); errno != api.OK {
			t.Fatalf("Run(%.80q): %d", text, errno)
		}
	}
	return s
}

// wantRows holds the answer to a SELECT against the rows that it must have. (P1: Changed is 0.)
func wantRows(t *testing.T, s *clause.Store, text string, width int, want string) {
	t.Helper()
	a, errno := s.Run(text)
	if errno != api.OK || a.Width != width || a.Changed != 0 || len(a.Cells)%max(width, 1) != 0 || toldAnswer(a) != want {
		t.Errorf("Run(%.120q) = %d wide, %q, changed %d, error %d, want %d wide, %q", text, a.Width, toldAnswer(a), a.Changed, errno, width, want)
	}
}

// wantChanged holds the answer to another statement against how many rows it must have changed. (P1: Width and Cells are empty.)
func wantChanged(t *testing.T, s *clause.Store, text string, want int) {
	t.Helper()
	a, errno := s.Run(text)
	if errno != api.OK || a.Changed != want || a.Width != 0 || len(a.Cells) != 0 {
		t.Errorf("Run(%.120q) = %+v, %d, want %d changed", text, a, errno, want)
	}
}

// wantError holds the error of a statement against the one that it must have. (P1: an Answer of noughts beside it, and nothing is changed.)
func wantError(t *testing.T, s *clause.Store, want api.Errno, texts ...string) {
	t.Helper()
	before := s.Dump()
	for _, text := range texts {
		a, errno := s.Run(text)
		if errno != want || a.Width != 0 || len(a.Cells) != 0 || a.Changed != 0 {
			t.Errorf("Run(%.120q) = %+v, %d, want %d", text, a, errno, want)
		}
		if after := s.Dump(); after != before {
			t.Fatalf("Run(%.120q), which was refused, left %q where %q was", text, after, before)
		}
	}
}

// wantDump holds what Dump answers against lines that each have a newline behind them.
func wantDump(t *testing.T, s *clause.Store, lines ...string) {
	t.Helper()
	want := ""
	for _, line := range lines {
		want += line + "\n"
	}
	if got := s.Dump(); got != want {
		t.Errorf("Dump() = %q, want %q", got, want)
	}
}

// fill200 puts rows into a table of one column until there are 200, in several statements.
func fill200(t *testing.T, s *clause.Store, table, value string) {
	t.Helper()
	for range 4 {
		wantChanged(t, s, "INSERT INTO "+table+" VALUES "+strings.TrimSuffix(strings.Repeat("("+value+"), ", 50), ", "), 50)
	}
}

func TestExamplesFourAndFive(t *testing.T) { // P7, P8, P9
	s := clause.New()
	wantChanged(t, s, "CREATE TABLE t (a INTEGER, b TEXT NOT NULL)", 0)
	wantChanged(t, s, "INSERT INTO t VALUES (1, 'x'), (NULL, 'y')", 2)
	wantRows(t, s, "SELECT a + 1, b FROM t WHERE a IS NULL OR a > 0 ORDER BY a", 2, "NULL 'y' | 2 'x'")
	wantError(t, s, api.ErrNull, "INSERT INTO t VALUES (3, 'z'), (4, NULL)")
	wantRows(t, s, "SELECT * FROM t", 2, "1 'x' | NULL 'y'")
	wantChanged(t, s, "UPDATE t SET a = a * 2 WHERE a > 0", 1)
	wantError(t, s, api.ErrZero, "SELECT 1 / 0 FROM t")
	wantDump(t, s, "CREATE TABLE t (a INTEGER, b TEXT NOT NULL);", "INSERT INTO t VALUES (2, 'x');", "INSERT INTO t VALUES (NULL, 'y');")
	wantChanged(t, s, "CREATE TABLE u (a INTEGER)", 0)
	wantRows(t, s, "SELECT 1 / 0 FROM u", 1, "")
}

func TestRunErrorsOfParse(t *testing.T) { // P7
	s := storeOf(t, "CREATE TABLE t (a INTEGER)")
	wantError(t, s, api.ErrLong, strings.Repeat(" ", 2001), "DROP TABLE t"+strings.Repeat(" ", 1989), strings.Repeat("(", 4000000))
	wantError(t, s, api.ErrToken, "?", "SELECT 'x FROM t", "DROP TABLE t \x00", "DROP TABLE none ?")
	wantError(t, s, api.ErrNumber, "INSERT INTO t VALUES (9223372036854775808)", "SELECT 9223372036854775809 FROM none", "SELECT * FROM t LIMIT 1000000001")
	wantError(t, s, api.ErrSyntax, "", "-- nothing", "DROP TABLE t;", "SELECT FROM none", "CREATE TABLE u (a TEXT, b TEXT, c TEXT, d TEXT, e TEXT, f TEXT, g TEXT)")
	wantError(t, s, api.ErrName, "DROP TABLE "+strings.Repeat("t", 31), "SELECT "+strings.Repeat("a", 31)+" FROM none")
	for _, deep := range deepTexts(41) {
		wantError(t, s, api.ErrDeep, "SELECT "+deep+" FROM none", "DELETE FROM t WHERE "+deep)
	}
	wantChanged(t, s, strings.Repeat("\n", 1988)+"DROP TABLE t", 0)
}

func TestRunWithoutAStore(t *testing.T) { // P1
	var none *clause.Store
	wantError(t, none, api.ErrTable, "CREATE TABLE t (a INTEGER)", "SELECT * FROM t", "DROP TABLE t")
	wantError(t, none, api.ErrSyntax, "")
	wantDump(t, none)
	wantDump(t, clause.New())
	var bare clause.Store
	wantChanged(t, &bare, "CREATE TABLE t (a INTEGER)", 0)
	wantDump(t, &bare, "CREATE TABLE t (a INTEGER);")
}

func TestCreateAndDrop(t *testing.T) { // P7
	s := clause.New()
	wantError(t, s, api.ErrTable, "DROP TABLE t", "SELECT * FROM t", "DELETE FROM t", "UPDATE t SET a = 1", "INSERT INTO t VALUES (1)")
	wantChanged(t, s, "CREATE TABLE t (a INTEGER, b TEXT, c BOOLEAN, d INTEGER NOT NULL, e TEXT NOT NULL, f BOOLEAN NOT NULL)", 0)
	wantRows(t, s, "SELECT * FROM t", 6, "")
	wantChanged(t, s, "INSERT INTO T VALUES (NULL, NULL, NULL, 1, 'x', TRUE)", 1)
	wantRows(t, s, "SELECT * FROM t", 6, "NULL NULL NULL 1 'x' TRUE")
	wantError(t, s, api.ErrTable, "CREATE TABLE t (a INTEGER)", "CREATE TABLE T (z TEXT)", "CREATE TABLE \"t\" (a INTEGER)", "DROP TABLE \"T\"", "SELECT * FROM \"T\"", "SELECT * FROM tt")
	wantChanged(t, s, "DROP TABLE t", 0)
	wantError(t, s, api.ErrTable, "DROP TABLE t", "SELECT * FROM t")
	wantDump(t, s)
	// The new table has nothing of the old one of its name.
	wantChanged(t, s, "CREATE TABLE t (z TEXT)", 0)
	wantRows(t, s, "SELECT * FROM t", 1, "")
	wantError(t, s, api.ErrColumn, "SELECT a FROM t")
}

func TestCreateErrors(t *testing.T) { // P7
	s := storeOf(t, "CREATE TABLE t (a INTEGER)")
	wantError(t, s, api.ErrColumn, "CREATE TABLE u (a INTEGER, a INTEGER)", "CREATE TABLE u (a INTEGER, b TEXT, A BOOLEAN)", "CREATE TABLE u (x TEXT, b TEXT, \"b\" TEXT NOT NULL)", "CREATE TABLE u (a TEXT, b TEXT, c TEXT, d TEXT, e TEXT, a TEXT)", "CREATE TABLE u (a TEXT, b TEXT, c TEXT, d TEXT, e TEXT, e TEXT)")
	wantError(t, s, api.ErrTable, "CREATE TABLE t (a INTEGER, a INTEGER)")
	wantChanged(t, s, "CREATE TABLE u (a INTEGER, \"A\" INTEGER, u TEXT)", 0)
	for i := range 6 {
		wantChanged(t, s, fmt.Sprintf("CREATE TABLE v%d (a INTEGER)", i), 0)
	}
	wantError(t, s, api.ErrFull, "CREATE TABLE w (a INTEGER)")
	wantError(t, s, api.ErrColumn, "CREATE TABLE w (a INTEGER, a INTEGER)")
	wantError(t, s, api.ErrTable, "CREATE TABLE v0 (a INTEGER)", "CREATE TABLE v0 (a INTEGER, a INTEGER)")
	wantChanged(t, s, "DROP TABLE v3", 0)
	wantChanged(t, s, "CREATE TABLE w (a INTEGER)", 0)
	wantError(t, s, api.ErrFull, "CREATE TABLE v3 (a INTEGER)")
}

func TestInsertRows(t *testing.T) { // P7, P8
	s := storeOf(t, "CREATE TABLE t (a INTEGER, b TEXT, c BOOLEAN)")
	wantChanged(t, s, "INSERT INTO t VALUES (1, 'x', TRUE)", 1)
	wantChanged(t, s, "INSERT INTO t VALUES (1 + 2 * 3, 'x' || 'y', 1 < 2 AND NOT FALSE), (NULL, NULL, NULL), (-1, '', NULL IS NULL)", 3)
	wantChanged(t, s, "INSERT INTO t VALUES (NULL + 1, NULL || 'x', NULL OR FALSE)", 1)
	wantRows(t, s, "SELECT * FROM t", 3, "1 'x' TRUE | 7 'xy' TRUE | NULL NULL NULL | -1 '' TRUE | NULL NULL NULL")
}

func TestInsertErrors(t *testing.T) { // P7
	s := storeOf(t, "CREATE TABLE t (a INTEGER, b TEXT, c BOOLEAN NOT NULL)", "INSERT INTO t VALUES (0, '', FALSE)")
	big := "'" + strings.Repeat("x", 101) + "'"
	for want, rows := range map[api.Errno][]string{
		api.ErrColumn: {"(1)", "(1, 'x')", "(1, 'x', TRUE, TRUE)", "(1, 'x', TRUE), (1)", "(1), (1, 'x', TRUE)", "(a, 'x', TRUE)", "(1, b || 'x', TRUE)", "(1, 'x', c)", "(1, 'x', NOT (d IS NULL))", "(1, 'x', TRUE), (1, 'x', c)",
			"('x', 1, 1), (1)", "(1 / 0, 1, NULL), (1, 'x', a)", "('x', 'x', c)", "(-a, 'x', TRUE)", "(1, 'x', 1 = a)"},
		api.ErrType: {"('1', 'x', TRUE)", "(TRUE, 'x', TRUE)", "(1, 1, TRUE)", "(1, FALSE, TRUE)", "(1, 'x', 1)", "(1, 'x', 'TRUE')", "(1 + 'x', 'x', TRUE)", "(1, 'x', TRUE), (1, 1, TRUE)", "(1, 'x', (1 + TRUE) IS NULL)", "(1 = 1, 'x', TRUE)", "(1, 'x', NOT 1)",
			"(1 / 0, " + big + ", NULL), (1, 'x', 'x')", "(1, 'x', NULL), (1, 1, TRUE)", "(1, 'x' || 1, TRUE)"},
		api.ErrNull: {"(1, 'x', NULL)", "(1, 'x', NULL = 1)", "(1, 'x', NULL AND TRUE)", "(1, 'x', TRUE), (1, 'x', NULL)", "(1, 'x', NULL), (1 / 0, 'x', TRUE)", "(1, 'x', NULL), (1, " + big + ", TRUE)"},
		api.ErrZero: {"(1 / 0, 'x', TRUE)", "(1 % 0, 'x', NULL)", "(1, 'x', 1 / 0 = 1)", "(1, 'x', TRUE), (1 / 0, 'x', NULL)", "(1 / 0, " + big + ", TRUE)", "(1 / 0, 'x', 9223372036854775807 + 1 = 0)", "(1 / 0, 'x', TRUE), (9223372036854775807 + 1, 'x', TRUE)"},
		api.ErrOver: {"(9223372036854775807 + 1, 'x', TRUE)", "(1, 'x', TRUE), (9223372036854775807 + 1, 'x', NULL)", "(9223372036854775807 + 1, 'x', 1 / 0 = 1)", "(9223372036854775807 + 1, 'x', TRUE), (1 / 0, 'x', TRUE)"},
		api.ErrBig:  {"(1, " + big + ", TRUE)", "(1, " + big + ", NULL)", "(1, 'x', " + big + " = '')", "(1, 'x' || '" + strings.Repeat("x", 100) + "', TRUE)", "(1, '" + strings.Repeat("é", 51) + "', TRUE)", "(1, " + big + ", 1 / 0 = 1)", "(1, NULL || " + big + ", TRUE)", "(1, 'x', " + big + " IS NULL)"},
	} {
		for _, values := range rows {
			wantError(t, s, want, "INSERT INTO t VALUES "+values)
		}
	}
	wantError(t, s, api.ErrTable, "INSERT INTO u VALUES (a)", "INSERT INTO u VALUES (1 + 'x')", "INSERT INTO u VALUES (1 / 0)")
	wantRows(t, s, "SELECT * FROM t", 3, "0 '' FALSE")
}

func TestTextsOfHundredBytes(t *testing.T) { // P7
	s := storeOf(t, "CREATE TABLE t (b TEXT)")
	want := []string{}
	for _, text := range []string{strings.Repeat("x", 100), strings.Repeat("é", 50), strings.Repeat("😀", 25), strings.Repeat("'", 100)} {
		quoted := strings.ReplaceAll(text, "'", "''")
		wantChanged(t, s, "INSERT INTO t VALUES ('"+quoted+"')", 1)
		wantError(t, s, api.ErrBig, "INSERT INTO t VALUES ('"+quoted+"y')", "INSERT INTO t VALUES ('y' || '"+quoted+"')", "UPDATE t SET b = b || 'y'", "UPDATE t SET b = '"+quoted+"y'", "DELETE FROM t WHERE b || 'y' = ''", "SELECT b FROM t WHERE '"+quoted+"y' IS NULL", "SELECT b FROM t ORDER BY b || 'y'", "SELECT b FROM t ORDER BY '"+quoted+"y' LIMIT 0")
		want = append(want, "'"+text+"'")
	}
	wantChanged(t, s, "UPDATE t SET b = b || ''", 4)
	wantRows(t, s, "SELECT b FROM t", 1, strings.Join(want, " | "))
	// Where no row is, no value is found out.
	wantChanged(t, s, "DELETE FROM t", 4)
	wantRows(t, s, "SELECT '"+strings.Repeat("x", 101)+"' FROM t", 1, "")
}

func TestTwoHundredRows(t *testing.T) { // P7
	s := storeOf(t, "CREATE TABLE t (a INTEGER NOT NULL)", "CREATE TABLE u (a INTEGER)")
	wantChanged(t, s, "INSERT INTO u VALUES (9)", 1)
	fill200(t, s, "t", "1")
	wantError(t, s, api.ErrFull, "INSERT INTO t VALUES (1)", "INSERT INTO t VALUES (1), (2)")
	wantError(t, s, api.ErrNull, "INSERT INTO t VALUES (NULL)", "INSERT INTO t VALUES (1), (NULL)")
	wantError(t, s, api.ErrZero, "INSERT INTO t VALUES (1), (1 / 0)")
	wantError(t, s, api.ErrType, "INSERT INTO t VALUES ('x')")
	wantError(t, s, api.ErrColumn, "INSERT INTO t VALUES (1, 2)")
	wantChanged(t, s, "INSERT INTO u VALUES (8)", 1)
	wantChanged(t, s, "UPDATE t SET a = 2", 200)
	wantChanged(t, s, "DELETE FROM t", 200)
	fill200(t, s, "t", "3")
	wantChanged(t, s, "UPDATE u SET a = 7 WHERE a = 9", 1)
	wantRows(t, s, "SELECT * FROM u", 1, "7 | 8")
}

func TestTwoHundredAndOneRows(t *testing.T) { // P7
	s := storeOf(t, "CREATE TABLE t (a INTEGER)")
	wantError(t, s, api.ErrFull, "INSERT INTO t VALUES "+strings.Repeat("(1), ", 200)+"(1)")
	wantChanged(t, s, "INSERT INTO t VALUES "+strings.Repeat("(1), ", 197)+"(2)", 198)
	wantError(t, s, api.ErrFull, "INSERT INTO t VALUES (1), (2), (3)")
	wantChanged(t, s, "INSERT INTO t VALUES (3), (4)", 2)
	wantError(t, s, api.ErrFull, "INSERT INTO t VALUES (5)")
	wantChanged(t, s, "DELETE FROM t WHERE a = 2", 1)
	wantError(t, s, api.ErrFull, "INSERT INTO t VALUES (5), (6)")
	wantChanged(t, s, "INSERT INTO t VALUES (5)", 1)
	wantRows(t, s, "SELECT a FROM t WHERE a > 1", 1, "3 | 4 | 5")
}

func TestDelete(t *testing.T) { // P7, P8
	s := storeOf(t, "CREATE TABLE t (a INTEGER, c BOOLEAN)", "INSERT INTO t VALUES (1, TRUE), (2, FALSE), (3, NULL), (NULL, TRUE), (2, TRUE)")
	wantChanged(t, s, "DELETE FROM t WHERE FALSE", 0)
	wantChanged(t, s, "DELETE FROM t WHERE NULL", 0)
	wantChanged(t, s, "DELETE FROM t WHERE NULL = NULL", 0)
	wantChanged(t, s, "DELETE FROM t WHERE a = 2 AND NOT c", 1)
	wantRows(t, s, "SELECT a FROM t", 1, "1 | 3 | NULL | 2")
	wantChanged(t, s, "DELETE FROM t WHERE c", 3)
	wantRows(t, s, "SELECT * FROM t", 2, "3 NULL")
	wantChanged(t, s, "INSERT INTO t VALUES (4, TRUE)", 1)
	wantChanged(t, s, "DELETE FROM t WHERE TRUE", 2)
	wantChanged(t, s, "DELETE FROM t", 0)
	wantChanged(t, s, "INSERT INTO t VALUES (5, NULL), (6, NULL)", 2)
	wantChanged(t, s, "DELETE FROM t", 2)
	wantRows(t, s, "SELECT * FROM t", 2, "")
	wantDump(t, s, "CREATE TABLE t (a INTEGER, c BOOLEAN);")
}

func TestDeleteErrors(t *testing.T) { // P7
	s := storeOf(t, "CREATE TABLE t (a INTEGER, b TEXT)", "INSERT INTO t VALUES (1, 'x'), (2, 'y'), (3, NULL)")
	wantError(t, s, api.ErrTable, "DELETE FROM u WHERE d", "DELETE FROM u WHERE 1")
	wantError(t, s, api.ErrColumn, "DELETE FROM t WHERE d", "DELETE FROM t WHERE d + 'x' = 1", "DELETE FROM t WHERE 1 + 'x' = d", "DELETE FROM t WHERE NOT (a = -d)", "DELETE FROM t WHERE \"A\" = 1", "DELETE FROM t WHERE t IS NULL")
	wantError(t, s, api.ErrType, "DELETE FROM t WHERE a", "DELETE FROM t WHERE 'x'", "DELETE FROM t WHERE a = b", "DELETE FROM t WHERE a + 1", "DELETE FROM t WHERE 1 / 0", "DELETE FROM t WHERE -a", "DELETE FROM t WHERE b || b", "DELETE FROM t WHERE NULL + NULL")
	wantError(t, s, api.ErrZero, "DELETE FROM t WHERE 1 / (a - 3) < 0", "DELETE FROM t WHERE TRUE OR 1 / (a - 2) = 0", "DELETE FROM t WHERE 1 / (a - 1) = 9223372036854775806 + a")
	wantError(t, s, api.ErrOver, "DELETE FROM t WHERE a + 9223372036854775805 > 0", "DELETE FROM t WHERE a + 9223372036854775805 > 1 / (4 - a)")
	wantRows(t, s, "SELECT a FROM t", 1, "1 | 2 | 3")
}

func TestUpdate(t *testing.T) { // P7, P8
	s := storeOf(t, "CREATE TABLE t (a INTEGER, b INTEGER, c TEXT)", "INSERT INTO t VALUES (1, 10, 'x'), (2, 20, 'y'), (NULL, 30, NULL)")
	wantChanged(t, s, "UPDATE t SET a = b, b = a", 3)
	wantRows(t, s, "SELECT * FROM t", 3, "10 1 'x' | 20 2 'y' | 30 NULL NULL")
	wantChanged(t, s, "UPDATE t SET b = a, a = a + b, c = c || c WHERE b < 2 OR c IS NULL", 2)
	wantRows(t, s, "SELECT * FROM t", 3, "11 10 'xx' | 20 2 'y' | NULL 30 NULL")
	wantChanged(t, s, "UPDATE t SET a = 0 WHERE a = 20", 1)
	wantChanged(t, s, "UPDATE t SET a = 1 / 0 WHERE FALSE", 0)
	wantChanged(t, s, "UPDATE t SET a = 1 / 0 WHERE NULL", 0)
	wantChanged(t, s, "UPDATE t SET a = 10 / a WHERE a > 0", 1)
	wantChanged(t, s, "UPDATE t SET c = NULL, a = NULL", 3)
	wantChanged(t, s, "UPDATE t SET b = b", 3)
	wantRows(t, s, "SELECT * FROM t", 3, "NULL 10 NULL | NULL 2 NULL | NULL 30 NULL")
	wantChanged(t, s, "DELETE FROM t", 3)
	wantChanged(t, s, "UPDATE t SET b = 1 / 0", 0)
}

func TestUpdateErrors(t *testing.T) { // P7
	s := storeOf(t, "CREATE TABLE t (a INTEGER, b TEXT, c BOOLEAN NOT NULL)", "INSERT INTO t VALUES (1, 'x', TRUE), (2, 'y', FALSE), (NULL, NULL, TRUE)")
	wantError(t, s, api.ErrTable, "UPDATE u SET a = 1", "UPDATE u SET a = 1, a = 'x' WHERE 1")
	wantError(t, s, api.ErrColumn, "UPDATE t SET d = 1", "UPDATE t SET a = d", "UPDATE t SET a = 1, a = 2", "UPDATE t SET a = 1, b = 'x', \"a\" = 1", "UPDATE t SET a = 1, \"A\" = 2", "UPDATE t SET a = 1 WHERE d", "UPDATE t SET a = 'x', d = 1", "UPDATE t SET a = 'x', a = 1", "UPDATE t SET a = 'x' WHERE d", "UPDATE t SET a = 'x' WHERE 1 + d = 'x'", "UPDATE t SET a = 'x', b = -d", "UPDATE t SET c = NULL, t = 1 / 0")
	wantError(t, s, api.ErrType, "UPDATE t SET a = 'x'", "UPDATE t SET a = b", "UPDATE t SET a = TRUE", "UPDATE t SET b = 1", "UPDATE t SET b = c", "UPDATE t SET c = 0", "UPDATE t SET c = b", "UPDATE t SET a = 1 + b", "UPDATE t SET a = 1 WHERE a", "UPDATE t SET a = 1 WHERE b || 'x'", "UPDATE t SET a = 1 WHERE 1 = 'x'", "UPDATE t SET c = NULL WHERE a = b", "UPDATE t SET a = 1 / 0 WHERE 'x'", "UPDATE t SET a = 1, b = 2 WHERE FALSE")
	wantError(t, s, api.ErrNull, "UPDATE t SET c = NULL", "UPDATE t SET c = a > 0", "UPDATE t SET c = a > 1 WHERE a IS NULL", "UPDATE t SET c = NULL WHERE a = 2", "UPDATE t SET a = 1 / (a - 2), c = NULL", "UPDATE t SET c = NULL WHERE 1 / (a - 2) < 0", "UPDATE t SET a = 5, c = NULL, b = 'z'")
	wantError(t, s, api.ErrZero, "UPDATE t SET a = 1 / (a - 2)", "UPDATE t SET c = NULL, a = 1 / 0", "UPDATE t SET c = NULL, a = 1 / (a - 1)", "UPDATE t SET c = NULL WHERE 1 / (a - 1) = 0", "UPDATE t SET a = 1 / 0, b = '"+strings.Repeat("x", 101)+"'", "UPDATE t SET a = 9223372036854775807 + 1 WHERE 1 / (a - 1) = 0", "UPDATE t SET a = 1 WHERE a = 2 AND 1 / (a - 2) = 0")
	wantError(t, s, api.ErrOver, "UPDATE t SET a = 9223372036854775807 + a, c = 1 / 0 = 1", "UPDATE t SET a = 9223372036854775806 + a", "UPDATE t SET a = 9223372036854775807 + a WHERE 1 / (a - 2) < 0")
	wantError(t, s, api.ErrBig, "UPDATE t SET b = '"+strings.Repeat("x", 101)+"', a = 1 / 0", "UPDATE t SET b = '"+strings.Repeat("x", 100)+"' || b")
	wantRows(t, s, "SELECT * FROM t", 3, "1 'x' TRUE | 2 'y' FALSE | NULL NULL TRUE")
}

// TestRowsKeepTheirPlaces: an UPDATE leaves rows where they lie, a DELETE leaves the order of the others, an INSERT comes behind all.
func TestRowsKeepTheirPlaces(t *testing.T) { // P7
	s := storeOf(t, "CREATE TABLE t (a INTEGER, b INTEGER)")
	for i := range 30 {
		wantChanged(t, s, fmt.Sprintf("INSERT INTO t VALUES (%d, 0)", i), 1)
	}
	wantChanged(t, s, "UPDATE t SET b = 1, a = -a WHERE a % 3 = 0", 10)
	wantChanged(t, s, "DELETE FROM t WHERE a % 2 = 1 OR a = 2", 11)
	wantChanged(t, s, "INSERT INTO t VALUES (-100, 2), (100, 2)", 2)
	wantChanged(t, s, "DELETE FROM t WHERE a < -10 AND b = 1", 6)
	wantChanged(t, s, "INSERT INTO t VALUES (3, 2)", 1)
	wantRows(t, s, "SELECT a FROM t", 1, "0 | -3 | 4 | -6 | 8 | -9 | 10 | 14 | 16 | 20 | 22 | 26 | 28 | -100 | 100 | 3")
}

func TestSelectRows(t *testing.T) { // P7, P8
	s := storeOf(t, "CREATE TABLE t (a INTEGER, b TEXT, c BOOLEAN)", "INSERT INTO t VALUES (1, 'x', TRUE), (2, NULL, FALSE), (NULL, 'y', NULL)")
	wantRows(t, s, "SELECT * FROM t", 3, "1 'x' TRUE | 2 NULL FALSE | NULL 'y' NULL")
	wantRows(t, s, "SELECT b, a FROM t", 2, "'x' 1 | NULL 2 | 'y' NULL")
	wantRows(t, s, "SELECT a, *, a + 1, *, NULL FROM t WHERE c", 9, "1 1 'x' TRUE 2 1 'x' TRUE NULL")
	wantRows(t, s, "SELECT *, * FROM t WHERE NOT c", 6, "2 NULL FALSE 2 NULL FALSE")
	wantRows(t, s, "SELECT a FROM t WHERE c IS NULL", 1, "NULL")
	wantRows(t, s, "SELECT a FROM t WHERE NULL", 1, "")
	wantRows(t, s, "SELECT a, 1, 'x', TRUE FROM t WHERE FALSE", 4, "")
	wantRows(t, s, "SELECT * FROM t WHERE a > 5", 3, "")
	wantRows(t, s, "SELECT 1, 'x', TRUE, NULL FROM t", 4, "1 'x' TRUE NULL | 1 'x' TRUE NULL | 1 'x' TRUE NULL")
	wantRows(t, s, "SELECT "+strings.Repeat("*, ", 100)+"7 FROM t LIMIT 1", 301, strings.Repeat("1 'x' TRUE ", 100)+"7")
}

func TestSelectErrors(t *testing.T) { // P7
	s := storeOf(t, "CREATE TABLE t (a INTEGER, b TEXT, c BOOLEAN)", "INSERT INTO t VALUES (1, 'x', TRUE), (2, 'y', FALSE), (NULL, NULL, NULL)")
	wantError(t, s, api.ErrTable, "SELECT d FROM u", "SELECT 1 + 'x' FROM u WHERE 1", "SELECT * FROM u ORDER BY d")
	wantError(t, s, api.ErrColumn, "SELECT d FROM t", "SELECT *, d FROM t", "SELECT a FROM t WHERE d", "SELECT a FROM t ORDER BY d", "SELECT a FROM t ORDER BY a, b DESC, -d DESC", "SELECT 1 + 'x' FROM t ORDER BY d", "SELECT 1 + 'x' FROM t WHERE d", "SELECT a FROM t WHERE a ORDER BY d", "SELECT d + b FROM t", "SELECT b + d FROM t", "SELECT 1 / 0, d FROM t", "SELECT t FROM t", "SELECT \"A\" FROM t", "SELECT a FROM t ORDER BY d LIMIT 0")
	wantError(t, s, api.ErrType, "SELECT a + b FROM t", "SELECT a FROM t WHERE a", "SELECT a FROM t WHERE b", "SELECT a FROM t ORDER BY -b", "SELECT *, NOT a FROM t", "SELECT 1 / 0, 1 = 'x' FROM t", "SELECT 1 / 0 FROM t ORDER BY 1 = 'x'", "SELECT 1 / 0 FROM t WHERE 1", "SELECT a FROM t ORDER BY a, b, c, a AND c", "SELECT -b FROM t LIMIT 0")
	wantError(t, s, api.ErrZero, "SELECT 1 / 0 FROM t", "SELECT 1 / (a - 2) FROM t", "SELECT a FROM t WHERE 1 / (a - 2) < 0", "SELECT a FROM t ORDER BY a / 0", "SELECT a / 0 FROM t LIMIT 0", "SELECT 10 / (a - 2) FROM t LIMIT 1", "SELECT a FROM t ORDER BY 1 / (a - 2) LIMIT 0",
		"SELECT 1 / 0 FROM t ORDER BY 9223372036854775807 + 1", "SELECT 1 / (a - 1), 9223372036854775807 + 1 FROM t", "SELECT 9223372036854775806 + a FROM t WHERE 1 / (a - 1) = 1", "SELECT a FROM t ORDER BY 1 / 0, 9223372036854775807 + 1")
	wantError(t, s, api.ErrOver, "SELECT a + 9223372036854775806 FROM t", "SELECT 9223372036854775807 + 1 FROM t ORDER BY 1 / 0", "SELECT 9223372036854775807 + a, 1 / (a - 2) FROM t", "SELECT 9223372036854775807 + a FROM t WHERE TRUE OR 1 / (a - 2) = 0", "SELECT a FROM t WHERE 9223372036854775807 + a = 0 ORDER BY 1 / 0", "SELECT a FROM t ORDER BY 9223372036854775807 + 1, 1 / 0", "SELECT *, 9223372036854775807 + a, * FROM t")
	wantRows(t, s, "SELECT a / 0 FROM t WHERE a IS NULL", 1, "NULL")
	wantRows(t, s, "SELECT 2 / (a - 2) FROM t WHERE a <> 2 ORDER BY 1 / (2 - a)", 1, "-2")
}

func TestOrder(t *testing.T) { // P7
	s := storeOf(t, "CREATE TABLE t (i INTEGER, a INTEGER, b TEXT, c BOOLEAN)",
		"INSERT INTO t VALUES (0, 2, 'b', TRUE), (1, 1, NULL, NULL), (2, NULL, 'a', FALSE), (3, 2, '', TRUE), (4, -1, 'ab', FALSE), (5, NULL, 'B', NULL), (6, 1, 'é', TRUE), (7, 10, 'a', NULL)")
	for orders, want := range map[string]string{
		"a":                             "2 5 4 1 6 0 3 7",
		"a ASC":                         "2 5 4 1 6 0 3 7",
		"a DESC":                        "7 0 3 1 6 4 2 5",
		"b":                             "1 3 5 2 7 4 0 6",
		"b DESC":                        "6 0 4 2 7 5 3 1",
		"c":                             "1 5 7 2 4 0 3 6",
		"c DESC":                        "0 3 6 2 4 1 5 7",
		"a, b":                          "5 2 4 1 6 3 0 7",
		"a, b DESC":                     "2 5 4 6 1 0 3 7",
		"a DESC, b":                     "7 3 0 1 6 4 5 2",
		"a DESC, b DESC":                "7 0 3 6 1 4 2 5",
		"c, a, b":                       "5 1 7 2 4 6 3 0",
		"c DESC, a, b DESC":             "6 0 3 2 4 5 1 7",
		"c, c DESC, a DESC, i DESC":     "7 1 5 4 2 3 0 6",
		"NULL":                          "0 1 2 3 4 5 6 7",
		"1":                             "0 1 2 3 4 5 6 7",
		"1 DESC, NULL DESC, 'x', TRUE":  "0 1 2 3 4 5 6 7",
		"-i":                            "7 6 5 4 3 2 1 0",
		"i % 3 DESC":                    "2 5 1 4 7 0 3 6",
		"a IS NULL, b || b DESC":        "6 0 4 7 3 1 2 5",
		"a > 1 DESC":                    "0 3 7 1 4 6 2 5",
		"a = NULL, i DESC":              "7 6 5 4 3 2 1 0",
		"c AND a > 1, i":                "5 7 1 2 4 6 0 3",
		"b IS NOT NULL DESC, a < 2, -a": "2 5 7 0 3 6 4 1",
	} {
		wantRows(t, s, "SELECT i FROM t ORDER BY "+orders, 1, strings.ReplaceAll(want, " ", " | "))
	}
	wantRows(t, s, "SELECT b, i FROM t WHERE a > 0 ORDER BY c DESC, i DESC", 2, "'é' 6 | '' 3 | 'b' 0 | 'a' 7 | NULL 1")
	wantRows(t, s, "SELECT i FROM t", 1, "0 | 1 | 2 | 3 | 4 | 5 | 6 | 7")
}

// TestOrderOfManyAlike: so many rows that a way of sorting which keeps few alike ones in place by chance would not.
func TestOrderOfManyAlike(t *testing.T) { // P7
	s := storeOf(t, "CREATE TABLE t (i INTEGER, a INTEGER)")
	for i := range 200 {
		wantChanged(t, s, fmt.Sprintf("INSERT INTO t VALUES (%d, %d)", i, i*7%5), 1)
	}
	var rising, falling []string
	for a := range 5 {
		for i := range 200 {
			if i*7%5 == a {
				rising = append(rising, strconv.Itoa(i))
			}
			if i*7%5 == 4-a {
				falling = append(falling, strconv.Itoa(i))
			}
		}
	}
	wantRows(t, s, "SELECT i FROM t ORDER BY a", 1, strings.Join(rising, " | "))
	wantRows(t, s, "SELECT i FROM t ORDER BY a DESC", 1, strings.Join(falling, " | "))
	wantRows(t, s, "SELECT i FROM t ORDER BY a DESC LIMIT 50", 1, strings.Join(falling[:50], " | "))
}

func TestLimit(t *testing.T) { // P7
	s := storeOf(t, "CREATE TABLE t (a INTEGER, b TEXT)", "INSERT INTO t VALUES (3, 'x'), (1, 'y'), (2, 'z')")
	wantRows(t, s, "SELECT * FROM t LIMIT 0", 2, "")
	wantRows(t, s, "SELECT * FROM t ORDER BY a LIMIT 0", 2, "")
	wantRows(t, s, "SELECT * FROM t LIMIT 1", 2, "3 'x'")
	wantRows(t, s, "SELECT * FROM t ORDER BY a LIMIT 1", 2, "1 'y'")
	wantRows(t, s, "SELECT a, b, a FROM t ORDER BY b DESC LIMIT 2", 3, "2 'z' 2 | 1 'y' 1")
	for _, limit := range []string{"3", "4", "1000000000"} {
		wantRows(t, s, "SELECT a FROM t LIMIT "+limit, 1, "3 | 1 | 2")
		wantRows(t, s, "SELECT a FROM t ORDER BY a DESC LIMIT "+limit, 1, "3 | 2 | 1")
	}
	wantRows(t, s, "SELECT a FROM t WHERE a < 3 LIMIT 1", 1, "1")
	wantRows(t, s, "SELECT a FROM t WHERE a > 3 LIMIT 1", 1, "")
}
