package clause_test

import (
	"fmt"
	"slices"
	"strconv"
	"strings"
	"sync"
	"testing"

	"clause/api"
	"clause/clause"
)

// fillCells writes into all that belongs to a list, its spare room too.
func fillCells(cells []api.Value, mark int) {
	whole := cells[:cap(cells)]
	for i := range whole {
		whole[i] = api.Value{Kind: mark, Int: mark, Text: "filled"}
	}
}

func isFull(cells []api.Value, mark int) bool {
	return !slices.ContainsFunc(cells[:cap(cells)], func(v api.Value) bool {
		return v != api.Value{Kind: mark, Int: mark, Text: "filled"}
	})
}

func TestAnswersShareNothing(t *testing.T) { // P2
	s := storeOf(t, "CREATE TABLE t (a INTEGER, b TEXT)")
	asked := []string{"SELECT * FROM t", "SELECT b, a FROM t", "SELECT a FROM t ORDER BY a DESC", "SELECT *, 1 FROM t WHERE a > 1 LIMIT 3", "SELECT 1 FROM t LIMIT 0"}
	for row := range 40 {
		wantChanged(t, s, fmt.Sprintf("INSERT INTO t VALUES (%d, 'x%d')", row, row), 1)
		dump := s.Dump()
		for _, text := range asked {
			before, _ := s.Run(text)
			kept := slices.Clone(before.Cells)
			filled, _ := s.Run(text)
			fillCells(filled.Cells, -1)
			after, _ := s.Run(text)
			if !slices.Equal(before.Cells, kept) || !slices.Equal(after.Cells, kept) || s.Dump() != dump {
				t.Fatalf("%d rows, %q: writing into one list changed another, or the store", row, text)
			}
			fillCells(after.Cells, -2)
			wantChanged(t, s, "UPDATE t SET b = b || ''", row+1)
			wantChanged(t, s, "INSERT INTO t VALUES (-1, '')", 1)
			wantChanged(t, s, "DELETE FROM t WHERE a = -1", 1)
			if !isFull(filled.Cells, -1) || !isFull(after.Cells, -2) || s.Dump() != dump {
				t.Fatalf("%d rows, %q: a list that its owner filled was changed, or changed the store", row, text)
			}
		}
	}
}

// TestAnswersStay: an answer tells what was, whatever comes behind it.
func TestAnswersStay(t *testing.T) { // P2
	s := storeOf(t, "CREATE TABLE t (a INTEGER)", "INSERT INTO t VALUES (1), (2)")
	a, _ := s.Run("SELECT * FROM t")
	dump := s.Dump()
	wantChanged(t, s, "UPDATE t SET a = a + 10", 2)
	wantChanged(t, s, "DELETE FROM t WHERE a = 11", 1)
	if toldAnswer(a) != "1 | 2" || !strings.HasSuffix(dump, "VALUES (1);\nINSERT INTO t VALUES (2);\n") {
		t.Errorf("an answer became %q, a dump %q", toldAnswer(a), dump)
	}
	wantRows(t, s, "SELECT * FROM t", 1, "12")
}

func TestStoresKnowNothingOfEachOther(t *testing.T) { // P2, P7
	one, other := clause.New(), clause.New()
	if one == other {
		t.Fatal("New answers one store twice")
	}
	wantChanged(t, one, "CREATE TABLE t (a INTEGER)", 0)
	wantError(t, other, api.ErrTable, "SELECT * FROM t")
	wantChanged(t, other, "CREATE TABLE t (b TEXT)", 0)
	wantChanged(t, one, "INSERT INTO t VALUES (1), (2)", 2)
	wantChanged(t, other, "INSERT INTO t VALUES ('x')", 1)
	wantChanged(t, other, "UPDATE t SET b = 'y'", 1)
	wantDump(t, one, "CREATE TABLE t (a INTEGER);", "INSERT INTO t VALUES (1);", "INSERT INTO t VALUES (2);")
	wantDump(t, other, "CREATE TABLE t (b TEXT);", "INSERT INTO t VALUES ('y');")
	wantChanged(t, one, "DROP TABLE t", 0)
	wantRows(t, other, "SELECT * FROM t", 1, "'y'")
	for i := range 8 {
		wantChanged(t, one, fmt.Sprintf("CREATE TABLE u%d (a INTEGER)", i), 0)
	}
	wantChanged(t, other, "CREATE TABLE u (a INTEGER)", 0)
}

// TestInsertsAtOnce: none is lost, and the table is full at 200 rows, whoever comes first.
func TestInsertsAtOnce(t *testing.T) { // P7
	s := storeOf(t, "CREATE TABLE t (a INTEGER)")
	var all sync.WaitGroup
	var joined [8]int
	for i := range joined {
		all.Go(func() {
			for k := range 40 {
				if _, errno := s.Run("INSERT INTO t VALUES (" + strconv.Itoa(40*i+k) + ")"); errno == api.OK {
					joined[i]++
				} else if errno != api.ErrFull {
					t.Errorf("INSERT: %d", errno)
				}
			}
		})
	}
	all.Wait()
	sum := 0
	for _, n := range joined {
		sum += n
	}
	a, _ := s.Run("SELECT a FROM t")
	if sum != 200 || len(a.Cells) != 200 {
		t.Fatalf("%d rows joined, %d are there", sum, len(a.Cells))
	}
	// Those of one caller lie in the order in which it put them in.
	last := map[int]int{}
	for _, v := range a.Cells {
		if before, is := last[v.Int/40]; is && before >= v.Int {
			t.Fatalf("%d lies behind %d", v.Int, before)
		}
		last[v.Int/40] = v.Int
	}
}

// TestChangesAtOnce: no change is lost, and no caller sees half of one.
func TestChangesAtOnce(t *testing.T) { // P7, P9
	s := storeOf(t, "CREATE TABLE t (a INTEGER)", "INSERT INTO t VALUES (0)"+strings.Repeat(", (0)", 99))
	var all sync.WaitGroup
	for range 4 {
		all.Go(func() {
			for range 50 {
				wantChanged(t, s, "UPDATE t SET a = a + 1", 100)
			}
		})
		all.Go(func() {
			for range 50 {
				a, _ := s.Run("SELECT a FROM t")
				if len(slices.Compact(a.Cells)) != 1 {
					t.Error("SELECT saw half of an UPDATE")
				}
				lines := strings.Split(s.Dump(), "\n")
				if len(slices.Compact(lines)) != 3 {
					t.Error("Dump saw half of an UPDATE")
				}
			}
		})
	}
	all.Wait()
	wantRows(t, s, "SELECT a FROM t LIMIT 1", 1, "200")
}

// TestTablesAtOnce: tables come and go while others ask for them.
func TestTablesAtOnce(t *testing.T) { // P7
	s := clause.New()
	var all sync.WaitGroup
	for i := range 8 {
		all.Go(func() {
			table := "t" + strconv.Itoa(i)
			for range 100 {
				wantChanged(t, s, "CREATE TABLE "+table+" (a INTEGER)", 0)
				wantChanged(t, s, "INSERT INTO "+table+" VALUES (1), (2)", 2)
				wantRows(t, s, "SELECT a FROM "+table, 1, "1 | 2")
				s.Dump()
				wantChanged(t, s, "DROP TABLE "+table, 0)
			}
		})
	}
	all.Wait()
	wantDump(t, s)
}

// TestErrorsGiveTheLockBack: a call that was given up must not keep the others out.
func TestErrorsGiveTheLockBack(t *testing.T) { // P1
	s := storeOf(t, "CREATE TABLE t (a INTEGER)", "INSERT INTO t VALUES (1)")
	for _, text := range []string{"SELECT 1 / 0 FROM t", "SELECT 1 / (a - 1) FROM t WHERE TRUE", "SELECT", "DROP TABLE u", "UPDATE t SET a = 1 / (a - 1)"} {
		if _, errno := s.Run(text); errno == api.OK {
			t.Errorf("Run(%q) is OK", text)
		}
		wantRows(t, s, "SELECT a FROM t", 1, "1")
	}
}
