package clause_test

import (
	"math/rand"
	"strings"
	"testing"

	"clause/api"
	"clause/clause"
)

// patternPiece cuts the first statement off a text, by the patterns: closed tells whether a ; stood behind it.
func patternPiece(text string) (piece, rest string, closed bool) {
	for at := 0; at < len(text); {
		if space := passed.FindString(text[at:]); space != "" {
			at += len(space)
			continue
		}
		token, length, errno := patternToken(text[at:])
		if errno != api.OK {
			break
		}
		if token == sign(";", 0) {
			return text[:at], text[at+1:], true
		}
		at += length
	}
	return text, "", false
}

// patternLoad is a second reading of what Load must do.
func patternLoad(text string) (*plainStore, int, api.Errno) {
	if len(text) > 3000000 {
		return nil, 0, api.ErrLong
	}
	store := &plainStore{}
	for which := 1; ; which++ {
		piece, rest, closed := patternPiece(text)
		if closed {
			if _, errno := store.run(piece); errno != api.OK {
				return nil, which, errno
			}
			text = rest
			continue
		}
		if len(passed.FindString(piece)) == len(piece) {
			return store, which - 1, api.OK
		}
		if _, _, errno := clause.Parse(piece); errno != api.OK {
			return nil, which, errno
		}
		return nil, which, api.ErrSyntax
	}
}

// compareLoad holds Load against the second reading, and what is loaded against its own dump, and answers what Load made of the text.
func compareLoad(t *testing.T, text string) (int, api.Errno) {
	t.Helper()
	want, wantCount, wantErrno := patternLoad(text)
	s, count, errno := clause.Load(text)
	if (s == nil) != (want == nil) || count != wantCount || errno != wantErrno {
		t.Fatalf("Load(%q) = %p, %d, %d, want %p, %d, %d", text, s, count, errno, want, wantCount, wantErrno)
	}
	if want != nil {
		if s.Dump() != want.dump() {
			t.Fatalf("Load(%q) dumps %q, want %q", text, s.Dump(), want.dump())
		}
		again(t, s, want.size())
	}
	return count, errno
}

// TestAllShortScripts goes through all texts of up to five pieces of a list in which statements, tokens and comments begin and end.
func TestAllShortScripts(t *testing.T) { // P1, P10, P11
	pieces := []string{"CREATE TABLE t (a TEXT)", "DROP TABLE t", "INSERT INTO t VALUES (", ")", "'", "\"", ";", "--", "\n", "0", "9223372036854775809", "?"}
	texts := []string{""}
	seen := map[api.Errno]int{}
	for range 5 {
		var longer []string
		for _, text := range texts {
			for _, piece := range pieces {
				longer = append(longer, text+piece)
			}
		}
		for _, text := range longer {
			_, errno := compareLoad(t, text)
			seen[errno]++
		}
		texts = longer
	}
	t.Log(seen)
}

// script makes a text of statements that are right, most of them, with all kinds of things between.
func (r *teller) script(statements int) string {
	var text strings.Builder
	for range statements {
		statement := r.statement()
		before := r.tables.copied()
		if _, errno := r.tables.run(statement); errno != api.OK && !r.isRare(400) {
			r.tables = before
			continue
		}
		text.WriteString(r.pick("", "", " ", "\n", "-- ;\n", "--'\n\t", "\r\n  -- \"?\n--\n"))
		text.WriteString(statement)
		text.WriteString(r.pick("", "", " ", "\n", "--;\n", " -- it's\n"))
		if !r.isRare(300) {
			text.WriteString(";")
		}
	}
	return text.String() + r.pick("", "\n", " -- the end", "--;\n ")
}

// spoilt puts something into a text, or takes some of it away.
func (r *teller) spoilt(text string) string {
	at := r.Intn(len(text) + 1)
	to := min(len(text), at+r.Intn(3))
	return text[:at] + r.pick("", "'", "\"", ";", "--", "?", "\n", "\x00", "\xff", "1a", " 9223372036854775809 ", "';'", strings.Repeat(" ", 2000)) + text[to:]
}

// TestScriptsByChance holds Load against the second reading.
func TestScriptsByChance(t *testing.T) { // P1, P10, P11
	seen := map[api.Errno]int{}
	most := 0
	for seed := range int64(120) {
		teller := teller{Rand: rand.New(rand.NewSource(seed)), keeps: seed%3 == 0}
		text := teller.script(10 + teller.Intn(80))
		count, errno := compareLoad(t, text)
		seen[errno]++
		most = max(most, count)
		for range 20 {
			_, errno := compareLoad(t, teller.spoilt(text))
			seen[errno]++
		}
	}
	for _, errno := range []api.Errno{api.OK, api.ErrLong, api.ErrToken, api.ErrNumber, api.ErrSyntax, api.ErrTable} {
		if seen[errno] < 20 {
			t.Errorf("chance brought the error %d only %d times", errno, seen[errno])
		}
	}
	if most < 40 {
		t.Errorf("chance brought no more than %d statements", most)
	}
	t.Logf("errors: %v, at most %d statements", seen, most)
}

func FuzzLoad(f *testing.F) { // P1, P10, P11
	for _, text := range []string{"", ";", makesT, makesT + rowOfT, makesT + "INSERT INTO t VALUES (-1, ';'';\n--');-- ;\n", makesT + "DROP TABLE t", makesT + "DROP TABLE \";", makesT + "9223372036854775809;", "CREATE TABLE \";\" (a BOOLEAN NOT NULL);"} {
		f.Add(text)
	}
	f.Fuzz(func(t *testing.T, text string) { compareLoad(t, text) })
}
