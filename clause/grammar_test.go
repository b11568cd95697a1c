package clause_test

import (
	"math/rand"
	"slices"
	"strings"
	"testing"

	"clause/api"
	"clause/clause"
)

// A second reading of the document's statements, by its rules alone, that Parse is held against: which tokens can stand where. Heads are in lower case; what heads no rule is a token.
const grammar = `
start: CREATE TABLE name ( columns )
start: DROP TABLE name
start: INSERT INTO name VALUES rows
start: DELETE FROM name where
start: UPDATE name SET sets where
start: SELECT items FROM name where ordering limit
columns: column
columns: column , column
columns: column , column , column
columns: column , column , column , column
columns: column , column , column , column , column
columns: column , column , column , column , column , column
columns: column , column , column , column , column , column , seventh
column: name type
column: name type NOT NULL
type: INTEGER
type: TEXT
type: BOOLEAN
rows: row
rows: rows , row
row: ( values )
values: l1
values: values , l1
sets: set
sets: sets , set
set: name = l1
items: item
items: items , item
item: *
item: l1
where:
where: WHERE l1
ordering:
ordering: ORDER BY orders
orders: order
orders: orders , order
order: l1
order: l1 ASC
order: l1 DESC
limit:
limit: LIMIT count
l1: l2
l1: l1 OR l2
l2: l3
l2: l2 AND l3
l3: l4
l3: NOT l3
l4: l5
l4: l5 = l5
l4: l5 <> l5
l4: l5 < l5
l4: l5 <= l5
l4: l5 > l5
l4: l5 >= l5
l4: l5 IS NULL
l4: l5 IS NOT NULL
l5: l6
l5: l5 || l6
l6: l7
l6: l6 + l7
l6: l6 - l7
l7: l8
l7: l7 * l8
l7: l7 / l8
l7: l7 % l8
l8: l9
l8: - l8
l8: - lowest
l9: number
l9: string
l9: name
l9: TRUE
l9: FALSE
l9: NULL
l9: ( l1 )
`

type rule struct {
	head string
	body []string
}

// state is a rule of which the symbols ahead of the dot are found, from a place on.
type state struct {
	rule, dot, from int
}

// chart is the states at each place of a list of tokens, by Earley's method.
type chart struct {
	rules []rule
	heads map[string]bool
	sets  [][]state
}

func newChart() *chart {
	c := &chart{heads: map[string]bool{}}
	for line := range strings.Lines(strings.TrimSpace(grammar)) {
		head, body, _ := strings.Cut(strings.TrimSpace(line), ":")
		c.rules = append(c.rules, rule{head, strings.Fields(body)})
		c.heads[head] = true
	}
	c.grow(nil, "start")
	return c
}

// next answers the symbol behind the dot, or "".
func (c *chart) next(s state) string {
	if body := c.rules[s.rule].body; s.dot < len(body) {
		return body[s.dot]
	}
	return ""
}

// grow adds the set that follows of the states and of all rules of a head that may begin here.
func (c *chart) grow(states []state, begin string) {
	here := len(c.sets)
	seen := map[state]bool{}
	add := func(s state) {
		if !seen[s] {
			seen[s] = true
			states = append(states, s)
		}
	}
	first := states
	states = nil
	for _, s := range first {
		add(s)
	}
	predict := func(head string) {
		for i, r := range c.rules {
			if r.head == head {
				add(state{i, 0, here})
			}
		}
	}
	predict(begin)
	// What ends where it begins may end again for those that come later, so this goes on until nothing is new.
	for before := -1; before != len(states); {
		before = len(states)
		for i := 0; i < len(states); i++ {
			s := states[i]
			switch symbol := c.next(s); {
			case symbol == "":
				origin := states
				if s.from < here {
					origin = c.sets[s.from]
				}
				for _, waiting := range origin {
					if c.next(waiting) == c.rules[s.rule].head {
						add(state{waiting.rule, waiting.dot + 1, waiting.from})
					}
				}
			case c.heads[symbol]:
				predict(symbol)
			}
		}
	}
	c.sets = append(c.sets, states)
}

// wanted answers the tokens that can stand next.
func (c *chart) wanted() []string {
	var wanted []string
	for _, s := range c.sets[len(c.sets)-1] {
		if symbol := c.next(s); symbol != "" && !c.heads[symbol] && !slices.Contains(wanted, symbol) {
			wanted = append(wanted, symbol)
		}
	}
	return wanted
}

func (c *chart) push(symbol string) {
	var states []state
	for _, s := range c.sets[len(c.sets)-1] {
		if c.next(s) == symbol {
			states = append(states, state{s.rule, s.dot + 1, s.from})
		}
	}
	c.grow(states, "")
}

func (c *chart) pop() { c.sets = c.sets[:len(c.sets)-1] }

// isWhole tells whether a statement may end here.
func (c *chart) isWhole() bool {
	for _, s := range c.sets[len(c.sets)-1] {
		if s.from == 0 && c.next(s) == "" && c.rules[s.rule].head == "start" {
			return true
		}
	}
	return false
}

// symbols answers as what a token may stand.
func symbols(token api.Token) []string {
	switch token.Kind {
	case api.Name:
		return []string{"name"}
	case api.String:
		return []string{"string"}
	case api.Number:
		switch {
		case token.Text == "9223372036854775808":
			return []string{"lowest"}
		case len(token.Text) < 10 || token.Text == "1000000000":
			return []string{"number", "count"}
		}
		return []string{"number"}
	}
	return []string{token.Text}
}

// accept answers as which of the wanted symbols a token can stand next, or the error that it is.
func accept(wanted []string, token api.Token) (string, api.Errno) {
	isWanted := func(symbol string) bool { return slices.Contains(wanted, symbol) }
	if token.Kind == api.Name && len(token.Text) > 30 && (isWanted("name") || isWanted("seventh")) {
		return "", api.ErrName
	}
	for _, symbol := range symbols(token) {
		if isWanted(symbol) {
			return symbol, api.OK
		}
	}
	if token.Kind == api.Number && (isWanted("number") || isWanted("count")) {
		return "", api.ErrNumber
	}
	return "", api.ErrSyntax
}

// overAt answers which token is the - that makes 9223372036854775808 out of a number, or -1: one that stands ahead of a number of that size, in brackets or not.
func overAt(tokens []api.Token) int {
	is := func(i int, text string) bool { return i >= 0 && i < len(tokens) && tokens[i].Text == text }
	for i := range tokens {
		if !is(i, "-") || !is(i+1, "9223372036854775808") {
			continue
		}
		first, last := i, i+1
		for is(first-1, "(") && is(last+1, ")") {
			first--
			last++
		}
		if is(first-1, "-") && !endsOperand(tokens, first-2) {
			return first - 1
		}
	}
	return -1
}

// endsOperand tells whether a - behind that token stands between two operands.
func endsOperand(tokens []api.Token, i int) bool {
	if i < 0 {
		return false
	}
	switch tokens[i].Kind {
	case api.Name, api.Number, api.String:
		return true
	}
	return slices.Contains([]string{")", "NULL", "TRUE", "FALSE"}, tokens[i].Text)
}

// walk goes through lists of tokens that can stand behind one another, and holds Parse against the rules at each: at what is there, and with each token of a list behind it.
type walk struct {
	t      *testing.T
	chart  *chart
	all    []string
	text   string
	tokens []api.Token
	whole  int
}

// look holds Parse of what is there against the rules, and answers which tokens may follow.
func (w *walk) look() []string {
	if w.chart.isWhole() {
		w.whole++
		if tree, at, errno := clause.Parse(w.text); at != 0 || errno != api.OK {
			w.t.Fatalf("Parse(%q) = %v, %d, %d, want a tree", w.text, tree, at, errno)
		} else {
			wantSame(w.t, w.text, w.tokens, tree)
		}
	} else {
		wantRefusal(w.t, w.text, len(w.text), api.ErrSyntax)
	}
	var follow []string
	wanted := w.chart.wanted()
	for _, next := range w.all {
		token := tokenOf(next)
		_, errno := accept(wanted, token)
		at := len(w.text)
		over := -1
		if errno == api.OK {
			over = overAt(append(slices.Clip(w.tokens), token))
		}
		if errno == api.OK && over < 0 {
			follow = append(follow, next)
			continue
		}
		if errno == api.OK {
			at, errno = w.at(over), api.ErrNumber
		}
		wantRefusal(w.t, w.text+next, at, errno)
		wantRefusal(w.t, w.text+next+" ; FROM a", at, errno)
	}
	return follow
}

// at answers the place of a token in the text: a space stands behind each.
func (w *walk) at(which int) int {
	tokens, _, _ := clause.Tokens(w.text)
	return tokens[which].At
}

func tokenOf(text string) api.Token {
	tokens, _, _ := clause.Tokens(text)
	return tokens[0]
}

func (w *walk) push(text string) {
	symbol, _ := accept(w.chart.wanted(), tokenOf(text))
	w.chart.push(symbol)
	w.tokens = append(w.tokens, tokenOf(text))
	w.text += text + " "
}

func (w *walk) pop(text string) {
	w.chart.pop()
	w.tokens = w.tokens[:len(w.tokens)-1]
	w.text = strings.TrimSuffix(w.text, text+" ")
}

// wantSame holds what Print answers of the tree of a text that has no brackets but those of lists against the text: its tokens must be the same.
func wantSame(t *testing.T, text string, tokens []api.Token, tree []api.Node) {
	t.Helper()
	printed, errno := clause.Print(tree)
	if errno != api.OK {
		t.Fatalf("Print of the tree of %q: %q, %d", text, printed, errno)
	}
	again, _, _ := clause.Parse(printed)
	if !slices.Equal(tree, again) {
		t.Fatalf("%q is printed as %q, which has the tree %v, not %v", text, printed, again, tree)
	}
	open := 0
	for _, token := range tokens {
		if token.Text == "(" {
			open++
		}
	}
	if open > 0 && tokens[0].Text != "CREATE" || strings.Contains(text, "- ") {
		return
	}
	if got, want := bareTexts(printed), bareTexts(text); !slices.Equal(got, want) {
		t.Fatalf("%q is printed as %q", text, printed)
	}
}

// bareTexts answers the texts of the tokens but for ASC, which is never printed.
func bareTexts(text string) []string {
	tokens, _, _ := clause.Tokens(text)
	var texts []string
	for _, token := range tokens {
		if token.Kind != api.Key || token.Text != "ASC" {
			texts = append(texts, token.Text)
		}
	}
	return texts
}

var everyToken = append(strings.Fields("AND ASC BOOLEAN BY CREATE DELETE DESC DROP FALSE FROM INSERT INTEGER INTO IS LIMIT NOT NULL OR ORDER SELECT SET TABLE TEXT TRUE UPDATE VALUES WHERE ( ) , ; * + - / % = <> < <= > >= ||"),
	"a", `"OR"`, `"-"`, "'('", "'NULL'", "1", "1000000000", "1000000001", "9223372036854775807", "9223372036854775808", strings.Repeat("b", 30), strings.Repeat("c", 31), `"`+strings.Repeat("é", 16)+`"`)

// TestAllShortStatements goes through all lists of tokens, up to a length, behind some beginnings.
func TestAllShortStatements(t *testing.T) { // P4, P6
	few := strings.Fields("OR AND NOT = IS NULL || + - * ( ) , FROM a 1 9223372036854775808 ;")
	for _, c := range []struct {
		begin string
		all   []string
		more  int
	}{
		{"", everyToken, 4},
		{"SELECT", few, 4},
		{"SELECT -", strings.Fields("- ( ) 9223372036854775808 1 a + FROM"), 7},
		{"SELECT NOT a", few, 3},
		{"SELECT * FROM a", strings.Fields("WHERE ORDER BY LIMIT ASC DESC a 1 , *"), 9},
		{"UPDATE a SET", strings.Fields("a = , WHERE 1 ("), 8},
		{"INSERT INTO a VALUES", strings.Fields("( ) , 1 a ; *"), 8},
		{"CREATE TABLE a (", strings.Fields("a TEXT NOT NULL , )"), 10},
	} {
		w := &walk{t: t, chart: newChart(), all: c.all}
		for _, text := range strings.Fields(c.begin) {
			w.push(text)
		}
		var deeper func(left int)
		deeper = func(left int) {
			for _, next := range w.look() {
				if left > 0 {
					w.push(next)
					deeper(left - 1)
					w.pop(next)
				}
			}
		}
		deeper(c.more)
		if t.Failed() {
			return
		}
	}
}

// TestLongWalks takes long statements, token by token, of those that can stand there.
func TestLongWalks(t *testing.T) { // P4, P6
	random := rand.New(rand.NewSource(1))
	whole := 0
	for range 300 {
		w := &walk{t: t, chart: newChart(), all: everyToken}
		for length := random.Intn(40); length >= 0; length-- {
			follow := w.look()
			if len(follow) == 0 {
				break
			}
			w.push(follow[random.Intn(len(follow))])
		}
		whole += w.whole
		if t.Failed() {
			return
		}
	}
	if whole < 500 {
		t.Errorf("only %d whole statements were found", whole)
	}
}
