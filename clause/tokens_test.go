package clause_test

import (
	"slices"
	"strings"
	"sync"
	"testing"

	"clause/api"
	"clause/clause"
)

func key(text string, at int) api.Token    { return api.Token{Kind: api.Key, Text: text, At: at} }
func name(text string, at int) api.Token   { return api.Token{Kind: api.Name, Text: text, At: at} }
func str(text string, at int) api.Token    { return api.Token{Kind: api.String, Text: text, At: at} }
func number(text string, at int) api.Token { return api.Token{Kind: api.Number, Text: text, At: at} }
func sign(text string, at int) api.Token   { return api.Token{Kind: api.Sign, Text: text, At: at} }

// wantTokens holds the tokens of a text against those that it must have. (P1: the place beside them is 0.)
func wantTokens(t *testing.T, text string, want ...api.Token) {
	t.Helper()
	tokens, at, errno := clause.Tokens(text)
	if !slices.Equal(tokens, want) || at != 0 || errno != api.OK {
		t.Errorf("Tokens(%.60q) = %v, %d, %d, want %v, 0, 0", text, tokens, at, errno, want)
	}
}

// wantFault holds the error of a text and its place against those that it must have. (P1: no token beside them.)
func wantFault(t *testing.T, text string, wantAt int, want api.Errno) {
	t.Helper()
	tokens, at, errno := clause.Tokens(text)
	if tokens != nil || at != wantAt || errno != want {
		t.Errorf("Tokens(%.60q) = %v, %d, %d, want nil, %d, %d", text, tokens, at, errno, wantAt, want)
	}
}

func TestTokensOfNothing(t *testing.T) { // P3
	wantTokens(t, "")
	wantTokens(t, " \t\r\n \n")
	wantTokens(t, "--")
	wantTokens(t, "-- to the end")
	wantTokens(t, "-- one\n--two\n\t--three")
}

func TestSpaceAndComments(t *testing.T) { // P3
	wantTokens(t, "a\tb\nc\rd e", name("a", 0), name("b", 2), name("c", 4), name("d", 6), name("e", 8))
	wantTokens(t, "a--b\nc", name("a", 0), name("c", 5))
	wantTokens(t, "a -- 'b\nc--\"", name("a", 0), name("c", 8))
	wantTokens(t, "a --\xff\x00?\rb", name("a", 0))
	wantTokens(t, "- -", sign("-", 0), sign("-", 2))
	wantTokens(t, "---1\n-1", sign("-", 5), number("1", 6))
	wantTokens(t, "'a'--'", str("a", 0))
	wantTokens(t, "1--", number("1", 0))
	for _, other := range []string{"\v", "\f", "\x00", "\x1f", "\u0085", "\u00a0", "\u3000", "\ufeff"} {
		wantFault(t, "a "+other+" b", 2, api.ErrToken)
	}
}

func TestExampleOne(t *testing.T) { // P3
	wantTokens(t, "a<=-1--x", name("a", 0), sign("<=", 1), sign("-", 3), number("1", 4))
	wantTokens(t, "'it''s'", str("it's", 0))
	wantTokens(t, `"A""b"`, name(`A"b`, 0))
	wantFault(t, "1a", 0, api.ErrToken)
	wantFault(t, "'x", 0, api.ErrToken)
	wantFault(t, " ?", 1, api.ErrToken)
	wantTokens(t, "007", number("7", 0))
}

func TestWords(t *testing.T) { // P3
	wantTokens(t, "a", name("a", 0))
	wantTokens(t, "_", name("_", 0))
	wantTokens(t, "_9aZ A9_z", name("_9az", 0), name("a9_z", 5))
	wantTokens(t, strings.Repeat("Q", 2000), name(strings.Repeat("q", 2000), 0))
	wantTokens(t, "a'b'c\"d\"", name("a", 0), str("b", 1), name("c", 4), name("d", 5))
	wantFault(t, "aé", 1, api.ErrToken)
	wantFault(t, "\u212Aey", 0, api.ErrToken) // a sign whose lower case is the letter k
	wantFault(t, "I\u017F", 1, api.ErrToken)  // one whose upper case is the letter S
}

func TestKeywords(t *testing.T) { // P3
	all := "AND ASC BOOLEAN BY CREATE DELETE DESC DROP FALSE FROM INSERT INTEGER INTO IS LIMIT NOT NULL OR ORDER SELECT SET TABLE TEXT TRUE UPDATE VALUES WHERE"
	for _, keyword := range strings.Fields(all) {
		lower := strings.ToLower(keyword)
		wantTokens(t, keyword, key(keyword, 0))
		wantTokens(t, lower, key(keyword, 0))
		wantTokens(t, keyword[:1]+lower[1:], key(keyword, 0))
		wantTokens(t, keyword+"1", name(lower+"1", 0))
		wantTokens(t, "_"+keyword, name("_"+lower, 0))
		wantTokens(t, `"`+keyword+`"`, name(keyword, 0))
		wantTokens(t, "'"+keyword+"'", str(keyword, 0))
	}
	for _, word := range []string{"INT", "PRIMARY", "AS", "IN", "ON", "LIKE", "BEGIN", "SELECTS", "ANDOR", "NUL"} {
		wantTokens(t, word, name(strings.ToLower(word), 0))
	}
}

func TestQuotes(t *testing.T) { // P3
	wantTokens(t, "''", str("", 0))
	wantTokens(t, "''''", str("'", 0))
	wantTokens(t, "'' ''", str("", 0), str("", 3))
	wantTokens(t, "'a'''", str("a'", 0))
	wantTokens(t, `'"' "'" """"`, str(`"`, 0), name("'", 4), name(`"`, 8))
	wantTokens(t, "'Aé€😀\ufffd'x", str("Aé€😀\ufffd", 0), name("x", 15))
	wantTokens(t, "'--;\n\x01\x7f'", str("--;\n\x01\x7f", 0))
	wantTokens(t, `"Ab C" "é"`, name("Ab C", 0), name("é", 7))
	wantTokens(t, "'"+strings.Repeat("''", 999)+"'", str(strings.Repeat("'", 999), 0))
}

func TestWrongQuotes(t *testing.T) { // P3: told where the quote begins
	for _, open := range []string{"'", "'x", "'''", "'x''", "\"", "\"x", "\"\"\"", "'\"", "\"'", "'\n"} {
		wantFault(t, open, 0, api.ErrToken)
		wantFault(t, "ab "+open, 3, api.ErrToken)
		wantFault(t, "ab 'c'"+" "+open, 7, api.ErrToken)
	}
	for _, bytes := range []string{"\x00", "\xff", "\x80", "\xc3", "\xc0\x80", "\xe2\x82", "\xed\xa0\x80", "\xf4\x90\x80\x80", "\xf0\x9f\x98"} {
		wantFault(t, "a 'bc"+bytes+"d'", 2, api.ErrToken)
		wantFault(t, "a 'b''"+bytes+"'", 2, api.ErrToken)
		wantFault(t, "a \"bc"+bytes+"\" ?", 2, api.ErrToken)
	}
	wantFault(t, `""`, 0, api.ErrToken)
	wantFault(t, `a "" "b"`, 2, api.ErrToken)
}

func TestNumbers(t *testing.T) { // P3
	for text, digits := range map[string]string{
		"0": "0", "1": "1", "10": "10", "000": "0", "00100": "100",
		"9223372036854775807":           "9223372036854775807",
		"9223372036854775808":           "9223372036854775808",
		"009223372036854775808":         "9223372036854775808",
		strings.Repeat("0", 1999) + "5": "5",
		strings.Repeat("0", 2000):       "0",
	} {
		wantTokens(t, text, number(digits, 0))
	}
	wantTokens(t, "1 2-3", number("1", 0), number("2", 2), sign("-", 3), number("3", 4))
	wantTokens(t, "1'a'\"b\"", number("1", 0), str("a", 1), name("b", 4))
	wantTokens(t, "x1", name("x1", 0))
}

func TestWrongNumbers(t *testing.T) { // P3
	for _, digits := range []string{"9223372036854775809", "09223372036854775809", "10000000000000000000", "18446744073709551616", "18446744073709551617", strings.Repeat("9", 1900)} {
		wantFault(t, digits, 0, api.ErrNumber)
		wantFault(t, "- "+digits+" ?", 2, api.ErrNumber)
		wantFault(t, "a "+digits+"b", 2, api.ErrToken)
		wantFault(t, "a "+digits+"_", 2, api.ErrToken)
	}
	for _, text := range []string{"1a", "1Z", "1_", "0x1", "1e5", "00a"} {
		wantFault(t, "- "+text, 2, api.ErrToken)
	}
	wantFault(t, "1.5", 1, api.ErrToken)
	wantFault(t, "1é", 1, api.ErrToken) // a letter of the document is one of a to z and A to Z
	wantFault(t, "9223372036854775809é", 0, api.ErrNumber)
}

func TestFirstFaultCounts(t *testing.T) { // P3
	wantFault(t, "a ? 1b", 2, api.ErrToken)
	wantFault(t, "a 1b ?", 2, api.ErrToken)
	wantFault(t, "? 9223372036854775809", 0, api.ErrToken)
	wantFault(t, "9223372036854775809 ?", 0, api.ErrNumber)
	wantFault(t, "'x' \"\" 'y", 4, api.ErrToken)
}

func TestSigns(t *testing.T) { // P3
	for _, text := range strings.Fields("( ) , ; * + - / % = <> < <= > >= ||") {
		wantTokens(t, text, sign(text, 0))
		wantTokens(t, "a"+text+"1", name("a", 0), sign(text, 1), number("1", 1+len(text)))
	}
	wantTokens(t, "<=>", sign("<=", 0), sign(">", 2))
	wantTokens(t, "<>=", sign("<>", 0), sign("=", 2))
	wantTokens(t, "<<=>>==", sign("<", 0), sign("<=", 1), sign(">", 3), sign(">=", 4), sign("=", 6))
	wantTokens(t, "< = > =", sign("<", 0), sign("=", 2), sign(">", 4), sign("=", 6))
	wantTokens(t, "||||", sign("||", 0), sign("||", 2))
	wantFault(t, "|", 0, api.ErrToken)
	wantFault(t, "a|||b", 3, api.ErrToken)
	wantFault(t, "a| |b", 1, api.ErrToken)
}

func TestWrongBytes(t *testing.T) { // P3
	signs := "(),;*+-/%=<>\t\n\r _"
	for b := range 256 {
		c := string([]byte{byte(b)})
		ordinary := 'a' <= b && b <= 'z' || 'A' <= b && b <= 'Z' || '0' <= b && b <= '9'
		if !ordinary && (b >= 128 || !strings.Contains(signs, c)) {
			wantFault(t, " "+c, 1, api.ErrToken)
			wantFault(t, "a "+c+" b", 2, api.ErrToken)
		} else if tokens, at, errno := clause.Tokens(c); len(tokens) > 1 || at != 0 || errno != api.OK {
			t.Errorf("Tokens(%q) = %v, %d, %d", c, tokens, at, errno)
		}
	}
}

func TestLongTexts(t *testing.T) { // P1, P3
	wantTokens(t, strings.Repeat(" ", 2000))
	wantTokens(t, strings.Repeat(" ", 1999)+"a", name("a", 1999))
	wantTokens(t, "'"+strings.Repeat("é", 999)+"'", str(strings.Repeat("é", 999), 0))
	wantFault(t, strings.Repeat(" ", 1999)+"?", 1999, api.ErrToken)
	for _, piece := range []string{" ", "a", "?", "'", "\"", "9", "-", "(", "\x00", "\xff"} {
		wantFault(t, strings.Repeat(piece, 2001), 0, api.ErrLong)
		wantFault(t, strings.Repeat(piece, 5000000), 0, api.ErrLong)
	}
	wantFault(t, "'"+strings.Repeat("é", 999)+"''", 0, api.ErrLong)
}

func TestManyTokens(t *testing.T) { // P3
	tokens, at, errno := clause.Tokens(strings.Repeat("(", 2000))
	if len(tokens) != 2000 || at != 0 || errno != api.OK {
		t.Fatalf("%d tokens, %d, %d", len(tokens), at, errno)
	}
	for i, token := range tokens {
		if token != sign("(", i) {
			t.Fatalf("token %d is %v", i, token)
		}
	}
}

// fill writes into all that belongs to a list, its spare room too.
func fill(tokens []api.Token, mark int) {
	whole := tokens[:cap(tokens)]
	for i := range whole {
		whole[i] = api.Token{Kind: mark, Text: "filled", At: mark}
	}
}

func TestListsShareNothing(t *testing.T) { // P2
	text := ""
	for length := range 40 {
		before, _, _ := clause.Tokens(text)
		kept := slices.Clone(before)
		filled, _, _ := clause.Tokens(text)
		after, _, _ := clause.Tokens(text)
		fill(filled, -1)
		if !slices.Equal(before, kept) || !slices.Equal(after, kept) {
			t.Fatalf("%d tokens: another list was changed", length)
		}
		wantTokens(t, text, kept...)
		fill(after, -2)
		for _, token := range filled[:cap(filled)] {
			if token.Kind != -1 {
				t.Fatalf("%d tokens: a list that its owner filled was changed", length)
			}
		}
		text += "a "
	}
}

func TestAnswersHangOnTheTextAlone(t *testing.T) { // P2
	texts := []string{"", "a 'b'", "?", "'x", "1a", "99999999999999999999", strings.Repeat("?", 2001), "select * from t"}
	for _, first := range texts {
		wantTokens(t, "a<1", name("a", 0), sign("<", 1), number("1", 2))
		clause.Tokens(first)
		wantFault(t, "a '", 2, api.ErrToken)
		clause.Tokens(first)
	}
}

func TestManyCallsAtOnce(t *testing.T) { // P1, P2
	var all sync.WaitGroup
	for range 8 {
		all.Go(func() {
			for range 200 {
				wantTokens(t, "A <> 'b'", name("a", 0), sign("<>", 2), str("b", 5))
				wantFault(t, "a 1b", 2, api.ErrToken)
			}
		})
	}
	all.Wait()
}
