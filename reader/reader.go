// Package reader reads the tokens of a text.
package reader

import (
	"strings"
	"unicode/utf8"

	"clause/api"
	"clause/fault"
)

// What stands where no rune can be read.
const (
	ended  rune = -1 // the text is over
	broken rune = -2 // a byte that begins no valid UTF-8
)

// Greatest is the value that no number may be above: it may stand behind a -.
const Greatest = "9223372036854775808"

var keywords = [...]string{
	"AND", "ASC", "BOOLEAN", "BY", "CREATE", "DELETE", "DESC", "DROP", "FALSE",
	"FROM", "INSERT", "INTEGER", "INTO", "IS", "LIMIT", "NOT", "NULL", "OR",
	"ORDER", "SELECT", "SET", "TABLE", "TEXT", "TRUE", "UPDATE", "VALUES", "WHERE",
}

// The long signs stand ahead of those that begin them, since the longest counts.
var signs = [...]string{
	"<>", "<=", ">=", "||",
	"(", ")", ",", ";", "*", "+", "-", "/", "%", "=", "<", ">",
}

// Tokens answers all tokens of a text, or panics with a fault.Fault.
func Tokens(text string) []api.Token {
	if len(text) > api.MaxText {
		panic(fault.Fault{Err: api.ErrLong})
	}
	r := reader{text: text}
	var tokens []api.Token
	for r.pass() {
		tokens = append(tokens, r.next())
	}
	return tokens
}

// IsBare tells whether a name can stand without quotes: whether it is a word that is read as this name.
func IsBare(name string) bool {
	for i, c := range name {
		if !inWord(c) || i == 0 && isDigit(c) {
			return false
		}
	}
	return name != "" && name == strings.ToLower(name) && !isKeyword(strings.ToUpper(name))
}

type reader struct {
	text  string
	at    int
	start int // where the token that is being read begins
}

// fail gives up: whatever is wrong with a token is told at its beginning.
func (r *reader) fail(errno api.Errno) {
	panic(fault.Fault{At: r.start, Err: errno})
}

// peek answers the rune that stands next and how many bytes it has.
func (r *reader) peek() (rune, int) {
	c, size := utf8.DecodeRuneInString(r.text[r.at:])
	if c != utf8.RuneError || size > 1 {
		return c, size
	}
	if size == 0 {
		return ended, 0
	}
	return broken, 1
}

// take answers the rune that stands next and goes behind it.
func (r *reader) take() rune {
	c, size := r.peek()
	r.at += size
	return c
}

// takeAll answers the runes up to the first that does not fit and goes behind them.
func (r *reader) takeAll(fits func(rune) bool) string {
	rest := r.text[r.at:]
	length := len(rest)
	for i, c := range rest {
		if !fits(c) {
			length = i
			break
		}
	}
	r.at += length
	return rest[:length]
}

// pass goes over space and comments and tells whether anything stands behind them.
func (r *reader) pass() bool {
	for {
		r.takeAll(isSpace)
		if !strings.HasPrefix(r.text[r.at:], "--") {
			return r.at < len(r.text)
		}
		r.takeAll(inLine)
	}
}

// next reads the token that stands here.
func (r *reader) next() api.Token {
	r.start = r.at
	kind, text := r.token()
	// The token may outlive the text that it is a piece of, and shares no memory with it.
	return api.Token{Kind: kind, Text: strings.Clone(text), At: r.start}
}

func (r *reader) token() (int, string) {
	switch c, _ := r.peek(); {
	case isDigit(c):
		return api.Number, r.number()
	case inWord(c):
		return r.word()
	case c == '\'':
		return api.String, r.quoted()
	case c == '"':
		return api.Name, r.quotedName()
	}
	return api.Sign, r.sign()
}

func (r *reader) word() (int, string) {
	word := r.takeAll(inWord)
	if upper := strings.ToUpper(word); isKeyword(upper) {
		return api.Key, upper
	}
	return api.Name, strings.ToLower(word)
}

func (r *reader) number() string {
	digits := r.takeAll(isDigit)
	// This comes ahead of the value: a number that runs into a word is no number at all.
	if c, _ := r.peek(); inWord(c) {
		r.fail(api.ErrToken)
	}
	digits = strings.TrimLeft(digits, "0")
	if digits == "" {
		return "0"
	}
	if isAbove(digits, Greatest) {
		r.fail(api.ErrNumber)
	}
	return digits
}

func (r *reader) quotedName() string {
	name := r.quoted()
	if name == "" {
		r.fail(api.ErrToken)
	}
	return name
}

// quoted reads a mark, what stands between, and the same mark again. Two marks between stand for one: they never end it, even if nothing else does.
func (r *reader) quoted() string {
	mark := r.take()
	var between strings.Builder
	for {
		c := r.take()
		switch c {
		case ended, broken, 0:
			r.fail(api.ErrToken)
		case mark:
			if following, _ := r.peek(); following != mark {
				return between.String()
			}
			r.take()
		}
		between.WriteRune(c)
	}
}

func (r *reader) sign() string {
	rest := r.text[r.at:]
	for _, sign := range signs {
		if strings.HasPrefix(rest, sign) {
			r.at += len(sign)
			return sign
		}
	}
	r.fail(api.ErrToken)
	return ""
}

// isAbove compares numbers of any length by their digits, which have no noughts ahead.
func isAbove(digits, bound string) bool {
	if len(digits) != len(bound) {
		return len(digits) > len(bound)
	}
	return digits > bound
}

func isKeyword(upper string) bool {
	for _, keyword := range keywords {
		if keyword == upper {
			return true
		}
	}
	return false
}

func isSpace(c rune) bool {
	return c == '\t' || c == '\n' || c == '\r' || c == ' '
}

func inLine(c rune) bool {
	return c != '\n'
}

func isDigit(c rune) bool {
	return '0' <= c && c <= '9'
}

// inWord asks for the letters of the document alone: no other alphabet has a place in a word.
func inWord(c rune) bool {
	return 'a' <= c && c <= 'z' || 'A' <= c && c <= 'Z' || c == '_' || isDigit(c)
}
