package clause_test

import (
	"fmt"
	"strings"
	"sync"
	"testing"

	"clause/api"
	"clause/clause"
)

// wantLoad loads a text that must be right, and holds how many statements it has, and the lines of the dump, against what they must be.
func wantLoad(t *testing.T, text string, count int, lines ...string) *clause.Store {
	t.Helper()
	s, n, errno := clause.Load(text)
	if s == nil || n != count || errno != api.OK {
		t.Fatalf("Load(%.120q) = %p, %d, %d, want a store, %d, 0", text, s, n, errno, count)
	}
	wantDump(t, s, lines...)
	return s
}

// wantNoLoad loads a text that must be refused. (P1: the store is nil.)
func wantNoLoad(t *testing.T, want api.Errno, which int, text string) {
	t.Helper()
	if s, n, errno := clause.Load(text); s != nil || n != which || errno != want {
		t.Errorf("Load(%.120q) = %p, %d, %d, want nil, %d, %d", text, s, n, errno, which, want)
	}
}

const (
	makesT = "CREATE TABLE t (a INTEGER, b TEXT);"
	rowOfT = "INSERT INTO t VALUES (1, 'x');"
)

func TestLoadNothing(t *testing.T) { // P10
	for _, text := range []string{"", " ", "\t\n\r ", "--", "-- x", "-- ;", "--;\n", " -- ; DROP TABLE t;\n\n--'\n--\"\n  -- ?\r", "--\x00\xff", strings.Repeat("--;\n", 1000), strings.Repeat(" ", 2001)} {
		s := wantLoad(t, text, 0)
		wantChanged(t, s, "CREATE TABLE t (a INTEGER)", 0)
	}
}

func TestLoadExampleFive(t *testing.T) { // P10, P11
	dump := []string{"CREATE TABLE t (a INTEGER, b TEXT NOT NULL);", "INSERT INTO t VALUES (2, 'x');", "INSERT INTO t VALUES (NULL, 'y');"}
	s := wantLoad(t, strings.Join(dump, "\n")+"\n", 3, dump...)
	wantRows(t, s, "SELECT a + 1, b FROM t WHERE a IS NULL OR a > 0 ORDER BY a", 2, "NULL 'y' | 3 'x'")
	wantError(t, s, api.ErrNull, "INSERT INTO t VALUES (3, 'z'), (4, NULL)")
}

func TestLoadStatements(t *testing.T) { // P10
	wantLoad(t, makesT, 1, makesT)
	wantLoad(t, "create table T(a integer,b text);", 1, makesT)
	wantLoad(t, " -- one\n"+makesT+" -- the end", 1, makesT)
	wantLoad(t, makesT+rowOfT, 2, makesT, rowOfT)
	wantLoad(t, makesT+"\r\n\t-- here ;\n"+rowOfT+"\n", 2, makesT, rowOfT)
	wantLoad(t, makesT+rowOfT+"UPDATE t SET a = a + 1;DELETE FROM t WHERE a = 1;SELECT * FROM t;", 5, makesT, "INSERT INTO t VALUES (2, 'x');")
	wantLoad(t, makesT+rowOfT+"DELETE FROM t;", 3, makesT)
	wantLoad(t, makesT+"DROP TABLE t;"+makesT+"DROP TABLE t;", 4)
	wantLoad(t, makesT+"SELECT 1 / 0 FROM t;", 2, makesT)
	s := wantLoad(t, makesT+strings.Repeat(rowOfT, 200)+strings.Repeat("UPDATE t SET a = a + 1;", 300), 501, append([]string{makesT}, strings.Split(strings.Repeat("INSERT INTO t VALUES (301, 'x');\n", 200), "\n")[:200]...)...)
	wantError(t, s, api.ErrFull, "INSERT INTO t VALUES (1, 'x')")
}

// TestLoadSemicolonsInTokens: a ; that is no token of its own ends nothing.
func TestLoadSemicolonsInTokens(t *testing.T) { // P10
	wantLoad(t, makesT+"INSERT INTO t VALUES (1, ';');", 2, makesT, "INSERT INTO t VALUES (1, ';');")
	wantLoad(t, makesT+"INSERT INTO t VALUES (1, ';'';'';'),(2,'--;');", 2, makesT, "INSERT INTO t VALUES (1, ';'';'';');", "INSERT INTO t VALUES (2, '--;');")
	wantLoad(t, makesT+"INSERT INTO t VALUES (1, '\";'), (2, '\n;\n');", 2, makesT, "INSERT INTO t VALUES (1, '\";');", "INSERT INTO t VALUES (2, '\n;\n');")
	wantLoad(t, "CREATE TABLE \";\" (\"a;\" TEXT, \"';\" TEXT, \"\"\";\" TEXT);", 1, "CREATE TABLE \";\" (\"a;\" TEXT, \"';\" TEXT, \"\"\";\" TEXT);")
	wantLoad(t, "CREATE TABLE \"--;\" (a TEXT); DROP TABLE \"--;\";", 2)
	wantLoad(t, "CREATE TABLE t -- ; ' \" ?\n (a INTEGER, -- b;\n b TEXT--;\n);--;", 1, makesT)
	wantLoad(t, makesT+"INSERT INTO t VALUES (1 - -- ;\n 2, 'x');", 2, makesT, "INSERT INTO t VALUES (-1, 'x');")
	// A minus, a space and a minus begin no comment.
	wantLoad(t, makesT+"INSERT INTO t VALUES (1 - -2, 'x');", 2, makesT, "INSERT INTO t VALUES (3, 'x');")
	// The ; of the comment closes nothing, and so the statement is not closed at all.
	wantNoLoad(t, api.ErrSyntax, 1, "CREATE TABLE t (a TEXT) -- ;")
	wantNoLoad(t, api.ErrSyntax, 2, makesT+"DROP TABLE t --;\n--;")
}

func TestLoadEmptyStatements(t *testing.T) { // P10
	for _, empty := range []string{"", " ", "\n", "-- x\n", " --;\n\t"} {
		wantNoLoad(t, api.ErrSyntax, 1, empty+";")
		wantNoLoad(t, api.ErrSyntax, 1, empty+";"+makesT)
		wantNoLoad(t, api.ErrSyntax, 2, makesT+empty+";")
		wantNoLoad(t, api.ErrSyntax, 2, makesT+empty+";"+rowOfT)
		wantNoLoad(t, api.ErrSyntax, 3, makesT+rowOfT+empty+";;;")
		wantLoad(t, makesT+rowOfT+empty, 2, makesT, rowOfT)
	}
}

// TestLoadWithoutTheLast: what stands behind the last ; is Parse's to judge, and wrong if Parse takes it.
func TestLoadWithoutTheLast(t *testing.T) { // P10
	for want, tails := range map[api.Errno][]string{
		// Parse takes these: what Run would say of them does not count.
		api.ErrSyntax: {"DROP TABLE t", " DROP TABLE t -- ;", "SELECT * FROM t\n", "DROP TABLE none", "SELECT 1 / 0 FROM t", "CREATE TABLE t (a TEXT)", "CREATE TABLE u (a TEXT, a TEXT)", "INSERT INTO t VALUES (NULL, 1)", "DELETE FROM t WHERE 1", "SELECT d FROM t", "INSERT INTO t VALUES (1, '" + strings.Repeat("x", 101) + "')", strings.Repeat(" ", 1988) + "DROP TABLE t",
			// Those not.
			"x", "1", "'x'", "(", "SELECT", "DROP TABLE", "DROP TABLE t t", ", ", "-", "SELECT * FROM t LIMIT", "CREATE TABLE u (a TEXT, b TEXT, c TEXT, d TEXT, e TEXT, f TEXT, g TEXT)"},
		api.ErrName:   {"DROP TABLE " + strings.Repeat("t", 31), "SELECT \"" + strings.Repeat("é", 16) + "\" FROM t"},
		api.ErrNumber: {"SELECT 9223372036854775808 FROM t", "SELECT * FROM t LIMIT 1000000001", "SELECT -(-9223372036854775808) FROM t", "SELECT 9223372036854775809", "DROP 99999999999999999999"},
		api.ErrDeep:   {"SELECT " + deepTexts(41)[0] + " FROM t", "SELECT * FROM none WHERE " + deepTexts(41)[0]},
		api.ErrToken:  {"?", " ?", "DROP TABLE t ?", "'x", "\"x", "\"\"", "1a", "DROP TABLE t \x00", "'\xff'", "é", "9223372036854775809x", "|", "!"},
		api.ErrLong:   {strings.Repeat(" ", 1989) + "DROP TABLE t", "DROP TABLE t" + strings.Repeat("\n", 1989), "x -- " + strings.Repeat("y", 1996), "'" + strings.Repeat("x", 2000)},
	} {
		for _, tail := range tails {
			wantNoLoad(t, want, 1, tail)
			wantNoLoad(t, want, 2, makesT+tail)
			wantNoLoad(t, want, 3, makesT+rowOfT+tail)
		}
	}
}

// TestLoadFirstErrorCounts: whatever stands behind it, and with all kinds of errors.
func TestLoadFirstErrorCounts(t *testing.T) { // P10
	big := "'" + strings.Repeat("x", 101) + "'"
	for want, wrong := range map[api.Errno][]string{
		api.ErrLong:   {strings.Repeat(" ", 1989) + "DROP TABLE t", "DROP TABLE t --" + strings.Repeat(";", 2000) + "\n", strings.Repeat("x", 2001)},
		api.ErrSyntax: {"x", "DROP TABLE", "SELECT FROM t", "SELECT a = b = c FROM t", "1", "CREATE TABLE u (a TEXT, b TEXT, c TEXT, d TEXT, e TEXT, f TEXT, g TEXT)"},
		api.ErrName:   {"DROP TABLE " + strings.Repeat("t", 31)},
		api.ErrNumber: {"SELECT 9223372036854775808 FROM t", "SELECT * FROM t LIMIT 1000000001"},
		api.ErrDeep:   {"SELECT " + deepTexts(41)[0] + " FROM t"},
		api.ErrTable:  {"DROP TABLE u", "CREATE TABLE t (a TEXT)", "SELECT * FROM \"T\""},
		api.ErrColumn: {"SELECT d FROM t", "INSERT INTO t VALUES (1)", "CREATE TABLE u (a TEXT, a TEXT)", "UPDATE t SET a = 1, a = 2"},
		api.ErrType:   {"SELECT a + b FROM t", "INSERT INTO t VALUES ('x', 'x')", "DELETE FROM t WHERE a"},
		api.ErrNull:   {"INSERT INTO n VALUES (NULL)", "UPDATE n SET a = NULL"},
		api.ErrOver:   {"SELECT 9223372036854775807 + a FROM t", "UPDATE t SET a = 9223372036854775807 + a"},
		api.ErrZero:   {"SELECT 1 / 0 FROM t", "INSERT INTO t VALUES (1 % 0, 'x')"},
		api.ErrBig:    {"INSERT INTO t VALUES (1, " + big + ")", "SELECT " + big + " FROM t"},
		api.ErrFull:   {"INSERT INTO n VALUES (1)" + strings.Repeat(", (1)", 199)},
	} {
		ahead := makesT + rowOfT + "CREATE TABLE n (a INTEGER NOT NULL); INSERT INTO n VALUES (1);"
		for _, text := range wrong {
			for _, behind := range []string{";", "; -- more\n", ";" + rowOfT, "; nonsense;", "; SELECT 1 / 0 FROM t;", "; ?", "; 'x", ";;", "; DROP TABLE t", "; 9223372036854775809 ;", ";" + strings.Repeat(" ", 3000)} {
				wantNoLoad(t, want, 5, ahead+text+behind)
				wantNoLoad(t, want, 6, ahead+"SELECT * FROM t;"+text+behind)
			}
		}
	}
	wantNoLoad(t, api.ErrTable, 1, "DROP TABLE t;"+makesT)
	wantNoLoad(t, api.ErrTable, 2, makesT+makesT)
	var eight string
	for i := range 8 {
		eight += fmt.Sprintf("CREATE TABLE t%d (a INTEGER);", i)
	}
	wantNoLoad(t, api.ErrFull, 9, eight+makesT)
	wantNoLoad(t, api.ErrTable, 9, eight+"CREATE TABLE t7 (a TEXT);")
	wantNoLoad(t, api.ErrFull, 202, makesT+strings.Repeat(rowOfT, 201))
}

// TestLoadUnreadable: from where no token can be read, all up to the end of the text belongs to the statement.
func TestLoadUnreadable(t *testing.T) { // P10
	for want, marks := range map[api.Errno][]string{
		api.ErrToken:  {"?", "'", "\"", "\"\"", "1a", "9223372036854775809a", "'\x00'", "\"\xff\"", "'x''", "\xff", "\x00", "é", "|", ".", "[", "{", "'x;y;z", "\"x;y;z", "0_"},
		api.ErrNumber: {"9223372036854775809", "0009223372036854775809", "99999999999999999999999999", strings.Repeat("9", 1000)},
	} {
		for _, mark := range marks {
			for _, begin := range []string{"", " ", "DROP TABLE t ", "SELECT ", "-- ?\n", "x "} {
				wantNoLoad(t, want, 1, begin+mark)
				wantNoLoad(t, want, 1, begin+mark+" ;")
				wantNoLoad(t, want, 2, makesT+begin+mark+" ;"+rowOfT)
				wantNoLoad(t, want, 3, makesT+rowOfT+begin+mark+" ; DROP TABLE none; ;")
				// All that stands behind counts, so it can be too long: to the last byte.
				rest := begin + mark + " ;"
				fill := strings.Repeat(";", 2000-len(rest))
				wantNoLoad(t, want, 2, makesT+rest+fill)
				wantNoLoad(t, api.ErrLong, 2, makesT+rest+fill+" ")
				wantNoLoad(t, api.ErrLong, 2, makesT+rest+strings.Repeat(rowOfT, 100))
			}
		}
	}
	// A number that Tokens takes is only Parse's to refuse: the statement ends at its ;.
	wantNoLoad(t, api.ErrNumber, 2, makesT+"SELECT 9223372036854775808 FROM t;"+strings.Repeat(" ", 3000))
	// What is wrong ahead of it counts first.
	wantNoLoad(t, api.ErrTable, 1, "DROP TABLE t; ?")
	wantNoLoad(t, api.ErrSyntax, 1, "; '")
	// The mark that ends one string begins another.
	wantNoLoad(t, api.ErrToken, 2, makesT+"INSERT INTO t VALUES (1, 'it's'); DROP TABLE t;")
}

func TestLoadStatementsOf2000Bytes(t *testing.T) { // P10
	for _, pad := range []func(text string, length int) string{
		func(text string, length int) string { return text + strings.Repeat(" ", length-len(text)) },
		func(text string, length int) string { return strings.Repeat("\n", length-len(text)) + text },
		func(text string, length int) string {
			return text + "--" + strings.Repeat(";", length-len(text)-3) + "\n"
		},
		func(text string, length int) string {
			return "--" + strings.Repeat("x", length-len(text)-3) + "\n" + text
		},
	} {
		for _, behind := range []string{"", "\n", rowOfT, strings.Repeat(" ", 4000)} {
			count, lines := 2, []string{makesT, rowOfT}
			if behind == rowOfT {
				count, lines = 3, append(lines, rowOfT)
			}
			wantLoad(t, makesT+pad(rowOfT[:len(rowOfT)-1], 2000)+";"+behind, count, lines...)
			wantNoLoad(t, api.ErrLong, 2, makesT+pad(rowOfT[:len(rowOfT)-1], 2001)+";"+behind)
		}
		create := makesT[:len(makesT)-1]
		wantLoad(t, pad(create, 2000)+";", 1, makesT)
		wantNoLoad(t, api.ErrLong, 1, pad(create, 2001)+";")
		wantNoLoad(t, api.ErrSyntax, 1, pad(create, 2000))
		wantNoLoad(t, api.ErrLong, 1, pad(create, 2001))
		wantNoLoad(t, api.ErrSyntax, 1, pad("", 2000)+";")
		wantNoLoad(t, api.ErrLong, 1, pad("", 2001)+";")
	}
	// They are bytes, not characters.
	insert := func(length int) string {
		text := "INSERT INTO t VALUES (1, 'é'), (2, '😀') --"
		return text + strings.Repeat("é", (length-len(text))/2) + strings.Repeat("x", (length-len(text))%2)
	}
	wantLoad(t, makesT+insert(1999)+"\n;", 2, makesT, "INSERT INTO t VALUES (1, 'é');", "INSERT INTO t VALUES (2, '😀');")
	wantNoLoad(t, api.ErrLong, 2, makesT+insert(2000)+"\n;")
}

func TestLoadTextsOf3000000Bytes(t *testing.T) { // P10
	blank := strings.Repeat(" ", api.MaxScript)
	wantLoad(t, blank, 0)
	wantLoad(t, makesT+blank[len(makesT):], 1, makesT)
	wantLoad(t, makesT+"--"+strings.Repeat(";", api.MaxScript-len(makesT)-2), 1, makesT)
	for _, text := range []string{blank + " ", makesT + blank, blank + makesT, ";" + blank, "?" + blank, strings.Repeat("x", api.MaxScript+1), strings.Repeat("\xff", 9000000)} {
		wantNoLoad(t, api.ErrLong, 0, text)
	}
	// A text that is full of statements, to its last byte.
	text := strings.Repeat("UPDATE t SET a=1;", (api.MaxScript-len(makesT))/17)
	text = makesT + text + blank[len(makesT)+len(text):]
	wantLoad(t, text, 1+(api.MaxScript-len(makesT))/17, makesT)
	wantNoLoad(t, api.ErrLong, 0, text+" ")
	wantNoLoad(t, api.ErrLong, 2, makesT+blank[len(makesT)+1:]+"x")
}

// TestLoadEnds: texts as long as can be of which each byte could be something of its own.
func TestLoadEnds(t *testing.T) { // P1
	for want, pieces := range map[api.Errno][]string{
		api.OK:        {"-", "--\n", "\t", "--;'\n"},
		api.ErrLong:   {"'", "\"", "''", "(", "- ", "9", "0 ", "x", "\x00", "\xff", "é", "NOT ", "';'", "|"},
		api.ErrSyntax: {";", "';", "\";", "'; ", "';\"", "-- ;\n;", "x;", "9;"},
	} {
		for _, piece := range pieces {
			text := strings.Repeat(piece, api.MaxScript/len(piece))
			if want == api.OK {
				wantLoad(t, text, 0)
			} else {
				wantNoLoad(t, want, 1, text)
			}
		}
	}
}

func TestLoadedStoresAreApart(t *testing.T) { // P2, P10
	first := storeOf(t, "CREATE TABLE t (a INTEGER, b TEXT)", "INSERT INTO t VALUES (1, 'x')")
	dump := first.Dump()
	one, other := wantLoad(t, dump, 2, makesT, rowOfT), wantLoad(t, dump, 2, makesT, rowOfT)
	if one == other || one == first || other == first {
		t.Fatal("Load answers a store that is there already")
	}
	wantChanged(t, one, "UPDATE t SET a = 2", 1)
	wantChanged(t, other, "INSERT INTO t VALUES (3, 'y')", 1)
	wantChanged(t, first, "DROP TABLE t", 0)
	wantDump(t, one, makesT, "INSERT INTO t VALUES (2, 'x');")
	wantDump(t, other, makesT, rowOfT, "INSERT INTO t VALUES (3, 'y');")
	wantDump(t, first)
	// Nothing is left of a text that was refused, nor of one that was loaded ahead.
	wantNoLoad(t, api.ErrSyntax, 3, makesT+rowOfT+";")
	wantLoad(t, makesT, 1, makesT)
	wantNoLoad(t, api.ErrTable, 1, rowOfT)
	wantDump(t, clause.New())
	wantDump(t, one, makesT, "INSERT INTO t VALUES (2, 'x');")
}

// TestLoadsAtOnce: each has its own store, and a store that was loaded may be called by several.
func TestLoadsAtOnce(t *testing.T) { // P2, P7, P10
	shared := wantLoad(t, makesT, 1, makesT)
	var all sync.WaitGroup
	for i := range 8 {
		all.Go(func() {
			row := fmt.Sprintf("INSERT INTO t VALUES (%d, 'x');", i)
			for k := range 25 {
				s, n, errno := clause.Load(makesT + row + strings.Repeat(row, k))
				if errno != api.OK || n != k+2 || s.Dump() != strings.ReplaceAll(makesT+row+strings.Repeat(row, k), ";", ";\n") {
					t.Errorf("Load = %d, %d", n, errno)
				}
				wantNoLoad(t, api.ErrSyntax, 3, makesT+row+row[:len(row)-1])
				wantChanged(t, shared, row[:len(row)-1], 1)
			}
		})
	}
	all.Wait()
	wantError(t, shared, api.ErrFull, "INSERT INTO t VALUES (1, 'x')")
}
