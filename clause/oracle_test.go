package clause_test

import (
	"math/big"
	"regexp"
	"slices"
	"strings"
	"testing"
	"unicode/utf8"

	"clause/api"
	"clause/clause"
)

// A second reading of the document, by patterns, that the program is held against.
var (
	passed    = regexp.MustCompile(`^(?:[\t\n\r ]|--[^\n]*)+`)
	word      = regexp.MustCompile(`^[A-Za-z_][A-Za-z0-9_]*`)
	digits    = regexp.MustCompile(`^[0-9]+`)
	inWord    = regexp.MustCompile(`^[A-Za-z0-9_]`)
	quotation = regexp.MustCompile(`^(?:'(?:[^']|'')*'|"(?:[^"]|"")*")`)
	anySign   = regexp.MustCompile(`^(?:<>|<=|>=|\|\||[(),;*+\-/%=<>])`)
	keyword   = regexp.MustCompile(`^(?:AND|ASC|BOOLEAN|BY|CREATE|DELETE|DESC|DROP|FALSE|FROM|INSERT|INTEGER|INTO|IS|LIMIT|NOT|NULL|OR|ORDER|SELECT|SET|TABLE|TEXT|TRUE|UPDATE|VALUES|WHERE)$`)
)

// patternToken reads the token at the beginning of a text: it answers its length too.
func patternToken(text string) (api.Token, int, api.Errno) {
	if w := word.FindString(text); keyword.MatchString(strings.ToUpper(w)) {
		return key(strings.ToUpper(w), 0), len(w), api.OK
	} else if w != "" {
		return name(strings.ToLower(w), 0), len(w), api.OK
	}
	if d := digits.FindString(text); d != "" {
		value, _ := new(big.Int).SetString(d, 10)
		if inWord.MatchString(text[len(d):]) {
			return api.Token{}, 0, api.ErrToken
		}
		if value.Cmp(new(big.Int).Lsh(big.NewInt(1), 63)) > 0 {
			return api.Token{}, 0, api.ErrNumber
		}
		return number(value.String(), 0), len(d), api.OK
	}
	if q := quotation.FindString(text); q != "" {
		mark := q[:1]
		between := q[1 : len(q)-1]
		if strings.HasPrefix(text[len(q):], mark) || !utf8.ValidString(between) || strings.Contains(between, "\x00") || q == `""` {
			return api.Token{}, 0, api.ErrToken
		}
		between = strings.ReplaceAll(between, mark+mark, mark)
		if mark == "'" {
			return str(between, 0), len(q), api.OK
		}
		return name(between, 0), len(q), api.OK
	}
	if s := anySign.FindString(text); s != "" {
		return sign(s, 0), len(s), api.OK
	}
	return api.Token{}, 0, api.ErrToken
}

func patternTokens(text string) ([]api.Token, int, api.Errno) {
	if len(text) > api.MaxText {
		return nil, 0, api.ErrLong
	}
	var tokens []api.Token
	at := len(passed.FindString(text))
	for at < len(text) {
		token, length, errno := patternToken(text[at:])
		if errno != api.OK {
			return nil, at, errno
		}
		token.At = at
		tokens = append(tokens, token)
		at += length
		at += len(passed.FindString(text[at:]))
	}
	return tokens, 0, api.OK
}

func comparePatterns(t *testing.T, text string) {
	t.Helper()
	tokens, at, errno := clause.Tokens(text)
	wantTokens, wantAt, want := patternTokens(text)
	if !slices.Equal(tokens, wantTokens) || at != wantAt || errno != want {
		t.Fatalf("Tokens(%q) = %v, %d, %d, want %v, %d, %d", text, tokens, at, errno, wantTokens, wantAt, want)
	}
}

// TestAllShortTexts goes through all texts of up to four pieces of a list in which every kind of token begins, goes on and ends.
func TestAllShortTexts(t *testing.T) { // P1, P3
	pieces := []string{"a", "OR", "_", "0", "7", "922337203685477580", "'", "\"", "-", "<", ">", "=", "|", "(", " ", "\n", "é", "\xff", "\x00", "?"}
	texts := []string{""}
	for range 4 {
		var longer []string
		for _, text := range texts {
			for _, piece := range pieces {
				longer = append(longer, text+piece)
			}
		}
		for _, text := range longer {
			comparePatterns(t, text)
		}
		texts = longer
	}
}

func FuzzTokens(f *testing.F) { // P1, P3
	for _, text := range []string{"", "a<=-1--x", "'it''s'", `"A""b"`, "1a", "'x", " ?", "007", "9223372036854775809", "SELECT * FROM t WHERE a || 'é' <> \"B\" -- c\n;"} {
		f.Add(text)
	}
	f.Fuzz(func(t *testing.T, text string) { comparePatterns(t, text) })
}
