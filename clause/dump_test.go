package clause_test

import (
	"fmt"
	"strings"
	"testing"

	"clause/api"
	"clause/clause"
)

func TestDumpOfNothing(t *testing.T) { // P9
	s := clause.New()
	wantDump(t, s)
	wantChanged(t, s, "CREATE TABLE t (a INTEGER)", 0)
	wantChanged(t, s, "DROP TABLE t", 0)
	wantDump(t, s)
}

func TestDumpByRisingNames(t *testing.T) { // P9
	s := storeOf(t, "CREATE TABLE b (a INTEGER)", "CREATE TABLE aa (a INTEGER)", "CREATE TABLE \"é\" (a INTEGER)", "CREATE TABLE \"B\" (a INTEGER)", "CREATE TABLE a (a INTEGER)", "CREATE TABLE _ (a INTEGER)", "CREATE TABLE \"a b\" (a INTEGER)", "CREATE TABLE \" \" (a INTEGER)",
		"INSERT INTO b VALUES (1)", "INSERT INTO a VALUES (2), (3)", "INSERT INTO \"é\" VALUES (4)")
	wantDump(t, s,
		`CREATE TABLE " " (a INTEGER);`,
		`CREATE TABLE "B" (a INTEGER);`,
		`CREATE TABLE _ (a INTEGER);`,
		`CREATE TABLE a (a INTEGER);`, `INSERT INTO a VALUES (2);`, `INSERT INTO a VALUES (3);`,
		`CREATE TABLE "a b" (a INTEGER);`,
		`CREATE TABLE aa (a INTEGER);`,
		`CREATE TABLE b (a INTEGER);`, `INSERT INTO b VALUES (1);`,
		`CREATE TABLE "é" (a INTEGER);`, `INSERT INTO "é" VALUES (4);`)
	wantChanged(t, s, "DROP TABLE aa", 0)
	wantChanged(t, s, "DROP TABLE \" \"", 0)
	wantChanged(t, s, "DROP TABLE \"é\"", 0)
	wantChanged(t, s, "DROP TABLE \"a b\"", 0)
	wantChanged(t, s, "CREATE TABLE \"AND\" (a INTEGER)", 0)
	wantDump(t, s, `CREATE TABLE "AND" (a INTEGER);`, `CREATE TABLE "B" (a INTEGER);`, `CREATE TABLE _ (a INTEGER);`, `CREATE TABLE a (a INTEGER);`, `INSERT INTO a VALUES (2);`, `INSERT INTO a VALUES (3);`, `CREATE TABLE b (a INTEGER);`, `INSERT INTO b VALUES (1);`)
}

func TestDumpNames(t *testing.T) { // P9
	s := storeOf(t, `create table "select" (A integer , "A" text not null, "a b" boolean, "it's" integer not null, """" text, "text" boolean not null)`,
		`insert into "select" values (1, 'x', true, 2, '', false)`)
	wantDump(t, s, `CREATE TABLE "select" (a INTEGER, "A" TEXT NOT NULL, "a b" BOOLEAN, "it's" INTEGER NOT NULL, """" TEXT, "text" BOOLEAN NOT NULL);`,
		`INSERT INTO "select" VALUES (1, 'x', TRUE, 2, '', FALSE);`)
	wantRows(t, s, `SELECT "A", """", "text", "it's" FROM "select"`, 4, "'x' '' FALSE 2")
}

func TestDumpLiterals(t *testing.T) { // P9
	s := storeOf(t, "CREATE TABLE t (a INTEGER, b TEXT, c BOOLEAN)", "INSERT INTO t VALUES (-1, 'it''s', TRUE), (-9223372036854775808, '''''', FALSE), (9223372036854775807, '\n;\t\r--', NULL), (0, '\"é😀', TRUE), (NULL, NULL, NULL), (1 - 2, 'a' || 'b', 1 > 2)")
	wantDump(t, s, "CREATE TABLE t (a INTEGER, b TEXT, c BOOLEAN);",
		"INSERT INTO t VALUES (-1, 'it''s', TRUE);",
		"INSERT INTO t VALUES (-9223372036854775808, '''''', FALSE);",
		"INSERT INTO t VALUES (9223372036854775807, '\n;\t\r--', NULL);",
		"INSERT INTO t VALUES (0, '\"é😀', TRUE);",
		"INSERT INTO t VALUES (NULL, NULL, NULL);",
		"INSERT INTO t VALUES (-1, 'ab', FALSE);")
}

func TestDumpAfterChanges(t *testing.T) { // P9
	s := storeOf(t, "CREATE TABLE t (a INTEGER)", "INSERT INTO t VALUES (1), (2), (3), (4)", "UPDATE t SET a = -a WHERE a = 2", "DELETE FROM t WHERE a = 3", "INSERT INTO t VALUES (0)")
	wantDump(t, s, "CREATE TABLE t (a INTEGER);", "INSERT INTO t VALUES (1);", "INSERT INTO t VALUES (-2);", "INSERT INTO t VALUES (4);", "INSERT INTO t VALUES (0);")
}

// greatest makes a store with as much in it as can be: its statements are the longest that a dump can have.
func greatest(t *testing.T) *clause.Store {
	t.Helper()
	mark := func(n int) string { return `"` + strings.Repeat(`""`, 29) + string(rune('A'+n)) + `"` }
	s := clause.New()
	for table := range 8 {
		var columns []string
		for c := range 6 {
			columns = append(columns, mark(c)+" TEXT NOT NULL")
		}
		wantChanged(t, s, "CREATE TABLE "+mark(table)+" ("+strings.Join(columns, ", ")+")", 0)
		cell := "'" + strings.Repeat("''", 100) + "'"
		for range 200 {
			wantChanged(t, s, "INSERT INTO "+mark(table)+" VALUES ("+strings.Repeat(cell+", ", 5)+cell+")", 1)
		}
	}
	return s
}

// statementsOf answers the statements of a dump whose texts have no newline.
func statementsOf(t *testing.T, dump string) []string {
	t.Helper()
	lines := strings.SplitAfter(dump, "\n")
	if last := lines[len(lines)-1]; last != "" {
		t.Fatalf("the dump ends with %q, without a newline", last)
	}
	var texts []string
	for _, line := range lines[:len(lines)-1] {
		text, ok := strings.CutSuffix(line, ";\n")
		if !ok {
			t.Fatalf("%q has no ; behind it", line)
		}
		texts = append(texts, text)
	}
	return texts
}

func TestGreatestDump(t *testing.T) { // P9
	s := greatest(t)
	texts := statementsOf(t, s.Dump())
	if len(texts) != 8*201 {
		t.Fatalf("the dump has %d statements", len(texts))
	}
	again := storeOf(t, texts...)
	if again.Dump() != s.Dump() {
		t.Error("the statements of the dump make another store")
	}
	if length := len(s.Dump()); length > api.MaxScript {
		t.Errorf("the dump has %d bytes", length)
	}
}

// TestDumpIsPrinted: each statement of a dump is what Print makes of its tree.
func TestDumpIsPrinted(t *testing.T) { // P9
	s := storeOf(t, `CREATE TABLE "T" (a INTEGER NOT NULL, "B" TEXT, c BOOLEAN)`)
	for i := range 20 {
		wantChanged(t, s, fmt.Sprintf(`INSERT INTO "T" VALUES (%d, 'x''%d', %d > 9)`, i*i-50, i, i), 1)
	}
	for _, text := range statementsOf(t, s.Dump()) {
		wantAgain(t, text, text)
	}
}
