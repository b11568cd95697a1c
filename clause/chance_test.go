package clause_test

import (
	"fmt"
	"math/big"
	"math/rand"
	"slices"
	"strings"
	"testing"

	"clause/api"
	"clause/clause"
)

// teller makes statements by chance: most of them right, some wrong in each way.
type teller struct {
	*rand.Rand
	tables  plainStore // what is there, so that the statements can name it
	columns []part     // those of the table that is spoken of, or none
	keeps   bool       // whether nothing is taken away, so that all grows full
}

func (r *teller) pick(list ...string) string { return list[r.Intn(len(list))] }

// isRare comes true once in n times.
func (r *teller) isRare(n int) bool { return r.Intn(n) == 0 }

func (r *teller) table() string {
	if len(r.tables) == 0 || r.isRare(40) {
		return r.newTable()
	}
	t := r.tables[r.Intn(len(r.tables))]
	r.columns = t.columns
	return `"` + t.name + `"`
}

func (r *teller) newTable() string {
	return r.pick("t", "u", `"T"`, `"a b"`, `"é"`, "v", "w", "x", "y", `"select"`)
}

// column answers a column of a type, if there is one: else something of that type.
func (r *teller) column(kind int) string {
	if r.isRare(150) {
		return r.pick("z", "zz", `"A"`)
	}
	var names []string
	for _, c := range r.columns {
		if c.Int%4 == kind {
			names = append(names, `"`+c.Text+`"`)
		}
	}
	if len(names) == 0 {
		return "NULL"
	}
	return r.pick(names...)
}

func (r *teller) expr(kind, depth int) string {
	if r.isRare(150) {
		kind = 1 + r.Intn(3)
	}
	if r.isRare(15) {
		return "NULL"
	}
	switch kind {
	case api.Integer:
		return r.number(depth)
	case api.Text:
		return r.text(depth)
	}
	return r.truth(depth)
}

func (r *teller) number(depth int) string {
	switch {
	case r.columns != nil && r.isRare(2):
		return r.column(api.Integer)
	case depth == 0 || r.isRare(3):
		return r.pick("0", "1", "2", "3", "-1", "-2", "7", "10", "100", "-5", "4", "6", "8", "9", "9223372036854775807", "-9223372036854775808", "3037000500")
	case r.isRare(8):
		return "-(" + r.expr(api.Integer, depth-1) + ")"
	}
	return "(" + r.expr(api.Integer, depth-1) + r.pick(" + ", " - ", " * ", " / ", " % ") + r.expr(api.Integer, depth-1) + ")"
}

func (r *teller) text(depth int) string {
	switch {
	case r.columns != nil && r.isRare(2):
		return r.column(api.Text)
	case depth == 0 || r.isRare(2):
		return r.pick("''", "'x'", "'y'", "'X'", "'it''s'", "'\n'", "'é'", "'😀'", "'"+strings.Repeat("k", 30+r.Intn(72))+"'")
	}
	return "(" + r.expr(api.Text, depth-1) + " || " + r.expr(api.Text, depth-1) + ")"
}

func (r *teller) truth(depth int) string {
	switch {
	case r.columns != nil && r.isRare(4):
		return r.column(api.Boolean)
	case depth == 0 || r.isRare(6):
		return r.pick("TRUE", "FALSE")
	case r.isRare(6):
		return "(NOT " + r.expr(api.Boolean, depth-1) + ")"
	case r.isRare(6):
		return "(" + r.expr(1+r.Intn(3), depth-1) + r.pick(" IS NULL)", " IS NOT NULL)")
	case r.isRare(2):
		return "(" + r.expr(api.Boolean, depth-1) + r.pick(" AND ", " OR ") + r.expr(api.Boolean, depth-1) + ")"
	}
	kind := 1 + r.Intn(3)
	return "(" + r.expr(kind, depth-1) + r.pick(" = ", " <> ", " < ", " <= ", " > ", " >= ") + r.expr(kind, depth-1) + ")"
}

func (r *teller) where(depth int) string {
	if r.isRare(4) {
		return ""
	}
	return " WHERE " + r.expr(api.Boolean, depth)
}

func (r *teller) create() string {
	var columns []string
	for range 1 + r.Intn(1+r.Intn(6)) {
		columns = append(columns, r.pick("a", "b", "c", "d", `"B"`, `"x y"`, "e", "f", "g", "h", "i", "j", "k", "l")+r.pick(" INTEGER", " TEXT", " BOOLEAN")+r.pick("", "", "", " NOT NULL"))
	}
	return "CREATE TABLE " + r.newTable() + " (" + strings.Join(columns, ", ") + ")"
}

func (r *teller) insert() string {
	name := r.table()
	columns := r.columns
	r.columns = nil
	depth, count := r.Intn(3), 1+r.Intn(4)
	if r.isRare(4) {
		depth, count = 0, 1+r.Intn(120)
	}
	text := "INSERT INTO " + name + " VALUES "
	for i := range count {
		var row []string
		for _, c := range columns {
			row = append(row, r.expr(c.Int%4, depth))
		}
		if len(row) == 0 || r.isRare(150) {
			row = append(row, r.pick("1", "NULL"))
		}
		more := ", (" + strings.Join(row, ", ") + ")"
		if i == 0 {
			more = more[2:]
		}
		if len(text)+len(more) > api.MaxText {
			break
		}
		text += more
	}
	return text
}

func (r *teller) update() string {
	text := "UPDATE " + r.table() + " SET "
	columns := slices.Clone(r.columns)
	r.Shuffle(len(columns), func(i, j int) { columns[i], columns[j] = columns[j], columns[i] })
	var sets []string
	for _, c := range columns[:min(len(columns), 1+r.Intn(3))] {
		sets = append(sets, `"`+c.Text+`" = `+r.expr(c.Int%4, r.Intn(3)))
	}
	if len(sets) == 0 || r.isRare(30) {
		sets = append(sets, r.pick("a = 1", "z = 1", "b = 'x'"))
	}
	return text + strings.Join(sets, ", ") + r.where(r.Intn(4))
}

func (r *teller) selection() string {
	table := r.table()
	var items, orders []string
	for range 1 + r.Intn(3) {
		items = append(items, r.pick("*", r.expr(1+r.Intn(3), r.Intn(4))))
	}
	text := "SELECT " + strings.Join(items, ", ") + " FROM " + table + r.where(r.Intn(4))
	for range r.Intn(4) {
		orders = append(orders, r.expr(1+r.Intn(3), r.Intn(3))+r.pick("", " ASC", " DESC"))
	}
	if len(orders) > 0 {
		text += " ORDER BY " + strings.Join(orders, ", ")
	}
	if r.isRare(3) {
		text += fmt.Sprintf(" LIMIT %d", r.Intn(10)*r.Intn(10))
	}
	return text
}

func (r *teller) statement() string {
	r.columns = nil
	switch n := r.Intn(100); {
	case n < 6 || len(r.tables) == 0 && r.isRare(2):
		return r.create()
	case n < 8 && !r.keeps:
		return "DROP TABLE " + r.table()
	case n < 16 && !r.keeps:
		return "DELETE FROM " + r.table() + r.where(r.Intn(4))
	case n < 40:
		return r.insert()
	case n < 65:
		return r.update()
	}
	return r.selection()
}

// wantAsModel runs a statement on a store and on the second reading of the promises, which must answer alike.
func wantAsModel(t *testing.T, s *clause.Store, model *plainStore, text string) (api.Answer, api.Errno) {
	t.Helper()
	want, wantErrno := model.run(text)
	got, errno := s.Run(text)
	if errno != wantErrno || got.Width != want.Width || got.Changed != want.Changed || !slices.Equal(got.Cells, want.Cells) {
		t.Fatalf("Run(%q) = %+v, %d, want %+v, %d; the tables were\n%s", text, got, errno, want, wantErrno, model.dump())
	}
	return got, errno
}

// TestNumbersByPairs holds all that is reckoned of two numbers near an edge against the same with numbers of any length.
func TestNumbersByPairs(t *testing.T) { // P7
	var numbers []string
	for _, edge := range []string{"0", "-9223372036854775806", "9223372036854775805", "4611686018427387904", "-4611686018427387904", "2147483648", "-2147483648", "4294967296", "-4294967296", "3037000499", "-3037000499", "3074457345618258602", "-3074457345618258602"} {
		number, _ := new(big.Int).SetString(edge, 10)
		for off := range int64(5) {
			numbers = append(numbers, new(big.Int).Add(number, big.NewInt(off-2)).String())
		}
	}
	s, model := clause.New(), &plainStore{}
	wantAsModel(t, s, model, "CREATE TABLE t (a INTEGER, b INTEGER)")
	wantAsModel(t, s, model, "INSERT INTO t VALUES (0, 0)")
	for _, a := range numbers {
		for _, b := range numbers {
			wantAsModel(t, s, model, "UPDATE t SET a = "+a+", b = "+b)
			for _, expr := range []string{"a + b", "a - b", "a * b", "a / b", "a % b", "-a", "a < b", "a = b"} {
				wantAsModel(t, s, model, "SELECT "+expr+" FROM t")
			}
		}
	}
}

// TestStatementsByChance holds a store against the second reading of the promises.
func TestStatementsByChance(t *testing.T) { // P7, P8, P9
	seen := map[api.Errno]int{}
	rows := 0
	for seed := range int64(60) {
		s := clause.New()
		teller := teller{Rand: rand.New(rand.NewSource(seed)), keeps: seed%3 == 0}
		model := &teller.tables
		for range 250 {
			text := teller.statement()
			got, errno := wantAsModel(t, s, model, text)
			if !strings.HasPrefix(text, "SELECT") || teller.isRare(10) {
				if dump := model.dump(); s.Dump() != dump {
					t.Fatalf("seed %d: behind Run(%q) the dump is\n%s, want\n%s", seed, text, s.Dump(), dump)
				}
			}
			seen[errno]++
			rows += len(got.Cells)
		}
	}
	for _, errno := range []api.Errno{api.OK, api.ErrTable, api.ErrColumn, api.ErrType, api.ErrNull, api.ErrOver, api.ErrZero, api.ErrBig, api.ErrFull} {
		if seen[errno] < 20 {
			t.Errorf("chance brought the error %d only %d times", errno, seen[errno])
		}
	}
	if seen[api.OK] < 5000 || rows < 20000 {
		t.Errorf("chance brought %d right statements and %d values only", seen[api.OK], rows)
	}
	t.Logf("errors: %v, values: %d", seen, rows)
}
