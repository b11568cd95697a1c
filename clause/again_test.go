package clause_test

import (
	"fmt"
	"math/rand"
	"slices"
	"strings"
	"testing"

	"clause/api"
	"clause/clause"
)

// again loads what a store dumps, which must have so many statements and dump the same.
func again(t *testing.T, s *clause.Store, count int) *clause.Store {
	t.Helper()
	dump := s.Dump()
	loaded, n, errno := clause.Load(dump)
	if loaded == nil || n != count || errno != api.OK {
		t.Fatalf("Load of the dump %.200q = %p, %d, %d, want a store, %d, 0", dump, loaded, n, errno, count)
	}
	if after := loaded.Dump(); after != dump {
		t.Fatalf("what is loaded dumps %.200q, not %.200q", after, dump)
	}
	if s.Dump() != dump {
		t.Fatal("Load changed the store that was dumped")
	}
	return loaded
}

// size answers how many statements the dump of these tables has.
func (m plainStore) size() int {
	count := len(m)
	for _, t := range m {
		count += len(t.rows)
	}
	return count
}

// wantAlike runs statements on two stores, which must answer alike.
func wantAlike(t *testing.T, one, other *clause.Store, texts ...string) {
	t.Helper()
	for _, text := range texts {
		a, errno := one.Run(text)
		b, again := other.Run(text)
		if errno != again || a.Width != b.Width || a.Changed != b.Changed || !slices.Equal(a.Cells, b.Cells) {
			t.Fatalf("Run(%q) = %+v, %d on the one and %+v, %d on the other", text, a, errno, b, again)
		}
	}
}

func TestAgainNothing(t *testing.T) { // P11
	s := clause.New()
	wantAlike(t, s, again(t, s, 0), "SELECT * FROM t", "DROP TABLE t", "CREATE TABLE t (a TEXT)", "SELECT * FROM t")
	s = storeOf(t, "CREATE TABLE t (a TEXT)", "DROP TABLE t")
	wantAlike(t, s, again(t, s, 0), "SELECT * FROM t", "CREATE TABLE t (a TEXT)")
}

func TestAgainColumns(t *testing.T) { // P11
	s := storeOf(t, "CREATE TABLE t (a INTEGER, b TEXT, c BOOLEAN, d INTEGER NOT NULL, e TEXT NOT NULL, f BOOLEAN NOT NULL)", "CREATE TABLE u (z BOOLEAN)")
	wantAlike(t, s, again(t, s, 2),
		"SELECT * FROM t", "SELECT z FROM t", "SELECT f, a FROM t", "INSERT INTO t VALUES (1, 'x', TRUE, NULL, 'x', TRUE)", "INSERT INTO t VALUES (1, 'x', TRUE, 1, NULL, TRUE)", "INSERT INTO t VALUES (1, 'x', TRUE, 1, 'x', NULL)", "INSERT INTO t VALUES (NULL, NULL, NULL, 1, 'x', TRUE)", "INSERT INTO t VALUES ('x', 'x', TRUE, 1, 'x', TRUE)", "INSERT INTO t VALUES (1, 1, TRUE, 1, 'x', TRUE)", "INSERT INTO t VALUES (1, 'x', 1, 1, 'x', TRUE)", "SELECT * FROM t", "CREATE TABLE t (a TEXT)", "INSERT INTO u VALUES (NULL)", "SELECT * FROM u")
}

func TestAgainNames(t *testing.T) { // P11
	for _, name := range []string{"T", "select", "OR", "a b", "a\"b", "\"", strings.Repeat("\"", 30), ";", "a;b;", "--", "--;\n", "\n", "'", "it's", "é", "日本", strings.Repeat("é", 15), strings.Repeat("日", 10), "😀", "1", "0a", "\x01", " ", "\ufffd", "-1", "a-b", "_"} {
		quoted := `"` + strings.ReplaceAll(name, `"`, `""`) + `"`
		s := storeOf(t, "CREATE TABLE "+quoted+" (a INTEGER, "+quoted+" TEXT)", "INSERT INTO "+quoted+" VALUES (1, 'x'), (2, 'y')")
		loaded := again(t, s, 3)
		wantAlike(t, s, loaded, "SELECT * FROM "+quoted, "SELECT "+quoted+", a FROM "+quoted+" ORDER BY "+quoted+" DESC", "SELECT * FROM t", "SELECT \"A\" FROM "+quoted)
		wantRows(t, loaded, "SELECT "+quoted+" FROM "+quoted, 1, "'x' | 'y'")
	}
}

func TestAgainValues(t *testing.T) { // P11
	s := storeOf(t, "CREATE TABLE t (a INTEGER, b TEXT, c BOOLEAN)")
	texts := []string{"", "x", "'", "''", "it's", "\"", "\"\"", ";", "';", "';'", "--", "--;", "'--;", "\n", ";\n", "\n--\n;\n", "\r\n\t ", "é", "€", "😀", "é€😀", "\x01\x7f", "\ufffd", "\u0080", "\uffff", "\U0010ffff", "NULL", "TRUE", "1", "-1", "); DROP TABLE t;", strings.Repeat("'", 100), strings.Repeat(";", 100), strings.Repeat("é", 50), strings.Repeat("😀", 25), strings.Repeat("\n", 100), strings.Repeat("x", 100)}
	for i, text := range texts {
		wantChanged(t, s, fmt.Sprintf("INSERT INTO t VALUES (%d, '%s', %s)", i, strings.ReplaceAll(text, "'", "''"), []string{"TRUE", "FALSE", "NULL"}[i%3]), 1)
	}
	numbers := []string{"0", "1", "-1", "9223372036854775807", "-9223372036854775808", "-9223372036854775807", "9223372036854775806", "10", "-100", "NULL"}
	for _, number := range numbers {
		wantChanged(t, s, "INSERT INTO t VALUES ("+number+", NULL, NULL)", 1)
	}
	loaded := again(t, s, 1+len(texts)+len(numbers))
	wantAlike(t, s, loaded, "SELECT * FROM t", "SELECT * FROM t ORDER BY a", "SELECT * FROM t ORDER BY b DESC, a", "SELECT * FROM t ORDER BY c, b", "SELECT a + 1 FROM t", "SELECT -a FROM t", "SELECT a / 10, a % 10 FROM t", "SELECT b || 'x' FROM t", "SELECT * FROM t WHERE c", "SELECT * FROM t WHERE NOT c", "SELECT * FROM t WHERE c IS NULL AND b IS NOT NULL", "SELECT * FROM t WHERE b = ''", "UPDATE t SET b = b || ';' WHERE a < 4", "SELECT * FROM t")
	a, _ := loaded.Run("SELECT b FROM t WHERE b IS NOT NULL AND a < 4 LIMIT 4")
	if toldAnswer(a) != "';' | 'x;' | '';' | ''';'" {
		t.Errorf("the first texts became %s", toldAnswer(a))
	}
}

// TestAgainAfterChanges: rows that are gone, have new values or came behind others leave no trace but where they lie.
func TestAgainAfterChanges(t *testing.T) { // P11
	s := clause.New()
	for table := range 8 {
		name := fmt.Sprintf("t%d", table)
		wantChanged(t, s, "CREATE TABLE "+name+" (a INTEGER, b TEXT)", 0)
		fill := strings.TrimSuffix(strings.Repeat("(1, 'x'), (2, NULL), ", 20), ", ")
		for range 5 {
			wantChanged(t, s, "INSERT INTO "+name+" VALUES "+fill, 40)
		}
	}
	wantAlike(t, s, again(t, s, 8*201), "INSERT INTO t0 VALUES (1, 'x')", "CREATE TABLE u (a TEXT)", "SELECT * FROM t7")
	wantChanged(t, s, "DELETE FROM t1 WHERE a = 1", 100)
	wantChanged(t, s, "INSERT INTO t1 VALUES (1, 'y'), (3, 'z')", 2)
	wantChanged(t, s, "UPDATE t2 SET a = -a, b = 'new' WHERE b IS NULL", 100)
	wantChanged(t, s, "DELETE FROM t3", 200)
	wantChanged(t, s, "DROP TABLE t4", 0)
	wantChanged(t, s, "DROP TABLE t5", 0)
	wantChanged(t, s, "CREATE TABLE t5 (z BOOLEAN NOT NULL)", 0)
	loaded := again(t, s, 7+200+102+200+400)
	for table := range 8 {
		wantAlike(t, s, loaded, fmt.Sprintf("SELECT * FROM t%d", table), fmt.Sprintf("SELECT * FROM t%d ORDER BY b, a DESC LIMIT 150", table), fmt.Sprintf("INSERT INTO t%d VALUES (7, 'q')", table), fmt.Sprintf("DELETE FROM t%d WHERE a = 2", table), fmt.Sprintf("SELECT a FROM t%d", table))
	}
	wantAlike(t, s, loaded, "CREATE TABLE u (a TEXT)", "CREATE TABLE v (a TEXT)", "SELECT * FROM t5")
	if s.Dump() != loaded.Dump() {
		t.Error("what was done alike made two stores unlike")
	}
}

func TestAgainGreatest(t *testing.T) { // P11
	s := greatest(t)
	loaded := again(t, s, 8*201)
	for table := range 8 {
		name := `"` + strings.Repeat(`""`, 29) + string(rune('A'+table)) + `"`
		wantAlike(t, s, loaded, "SELECT * FROM "+name, "INSERT INTO "+name+" VALUES ('', '', '', '', '', '')", "UPDATE "+name+" SET "+name+" = ''", "SELECT * FROM "+name)
	}
	wantAlike(t, s, loaded, "CREATE TABLE t (a TEXT)")
}

// TestAgainByChance: behind statements made by chance, and then with more of them on both stores.
func TestAgainByChance(t *testing.T) { // P11
	questions, rows := 0, 0
	for seed := range int64(60) {
		s := clause.New()
		teller := teller{Rand: rand.New(rand.NewSource(1000 + seed)), keeps: seed%3 == 0}
		model := &teller.tables
		for range 6 {
			for range 30 {
				wantAsModel(t, s, model, teller.statement())
			}
			loaded := again(t, s, model.size())
			for range 30 {
				text := teller.statement()
				got, errno := wantAsModel(t, s, model, text)
				after, againErrno := loaded.Run(text)
				if errno != againErrno || got.Width != after.Width || got.Changed != after.Changed || !slices.Equal(got.Cells, after.Cells) {
					t.Fatalf("Run(%q) = %+v, %d, but %+v, %d on what was loaded", text, got, errno, after, againErrno)
				}
				questions++
				rows += len(got.Cells)
			}
			if s.Dump() != loaded.Dump() {
				t.Fatalf("seed %d: what was done alike made two stores unlike", seed)
			}
		}
	}
	t.Logf("%d questions, %d values", questions, rows)
}
