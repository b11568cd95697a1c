package clause_test

import (
	"math"
	"math/rand"
	"regexp"
	"slices"
	"strconv"
	"strings"
	"testing"
	"unicode/utf8"

	"clause/api"
	"clause/clause"
)

// maker makes well-formed trees by chance.
type maker struct {
	*rand.Rand
	tree []api.Node
}

func (m *maker) add(kind int, text string, number, kids int) {
	m.tree = append(m.tree, node(kind, text, number, kids))
}

func (m *maker) name() string {
	names := []string{"a", "b", "t", "_x9", "or", "NULL", "A", "a b", "é", `"`, "'", "-", "(", ",", "1", "\n"}
	return names[m.Intn(len(names))]
}

func (m *maker) number() int {
	numbers := []int{0, 1, -1, 2, -2, 10, math.MaxInt, math.MinInt, -math.MaxInt}
	return numbers[m.Intn(len(numbers))]
}

func (m *maker) text() string {
	texts := []string{"", "x", "it's", "''", "--", "(", ")", ",", "-", `"`, "é😀", "SELECT", "\t\n"}
	return texts[m.Intn(len(texts))]
}

func (m *maker) single() {
	switch m.Intn(6) {
	case 0:
		m.add(api.Number, "", m.number(), 0)
	case 1:
		m.add(api.String, m.text(), 0, 0)
	case 2:
		m.add(api.Null, "", 0, 0)
	case 3:
		m.add(api.Bool, "", m.Intn(2), 0)
	default:
		m.add(api.Name, m.name(), 0, 0)
	}
}

// expr makes an expression that is at most so deep.
func (m *maker) expr(most int) {
	if most == 1 || m.Intn(4) == 0 {
		m.single()
		return
	}
	kind := api.Neg + m.Intn(api.Mod-api.Neg+1)
	if kind > api.NotNull {
		m.add(kind, "", 0, 2)
		m.expr(most - 1)
		m.expr(most - 1)
		return
	}
	m.add(kind, "", 0, 1)
	here := len(m.tree)
	m.expr(most - 1)
	if kind == api.Neg && m.tree[here].Kind == api.Number {
		m.tree[here] = column("a")
	}
}

// where makes a WHERE or none, and answers how many it made.
func (m *maker) where(most int) int {
	if m.Intn(2) == 0 {
		return 0
	}
	m.add(api.Where, "", 0, 1)
	m.expr(most)
	return 1
}

func (m *maker) create() {
	kinds := []int{1, 2, 3, 5, 6, 7}
	m.tree[0].Kids = 1 + m.Intn(6)
	for range m.tree[0].Kids {
		m.add(api.Column, m.name(), kinds[m.Intn(6)], 0)
	}
}

func (m *maker) insert(most int) {
	m.tree[0].Kids = 1 + m.Intn(3)
	for range m.tree[0].Kids {
		width := 1 + m.Intn(3)
		m.add(api.Row, "", 0, width)
		for range width {
			m.expr(most)
		}
	}
}

func (m *maker) update(most int) {
	sets := 1 + m.Intn(3)
	for range sets {
		m.add(api.Set, m.name(), 0, 1)
		m.expr(most)
	}
	m.tree[0].Kids = sets + m.where(most)
}

func (m *maker) selection(most int) {
	items, orders, limits := 1+m.Intn(3), m.Intn(3), m.Intn(2)
	for range items {
		if m.Intn(4) == 0 {
			m.add(api.Star, "", 0, 0)
		} else {
			m.expr(most)
		}
	}
	m.tree[0].Kids = items + m.where(most) + orders + limits
	for range orders {
		m.add(api.Order, "", m.Intn(2), 1)
		m.expr(most)
	}
	if limits > 0 {
		m.add(api.Limit, "", m.Intn(1000000001), 0)
	}
}

// statement makes a statement whose expressions are at most so deep.
func (m *maker) statement(most int) []api.Node {
	kinds := []int{api.Create, api.Drop, api.Insert, api.Delete, api.Update, api.Select, api.Select, api.Select}
	m.tree = []api.Node{node(kinds[m.Intn(len(kinds))], m.name(), 0, 0)}
	switch m.tree[0].Kind {
	case api.Create:
		m.create()
	case api.Insert:
		m.insert(most)
	case api.Delete:
		m.tree[0].Kids = m.where(most)
	case api.Update:
		m.update(most)
	case api.Select:
		m.selection(most)
	}
	return m.tree
}

// isExprBracket tells whether a ( stands around an expression: not around the columns of a CREATE or a row of an INSERT.
func isExprBracket(tokens []api.Token, i int) bool {
	switch tokens[0].Text {
	case "CREATE":
		return false
	case "INSERT":
		depth := 0
		for _, token := range tokens[:i] {
			depth += one(token, "(") - one(token, ")")
		}
		return depth > 0
	}
	return true
}

func one(token api.Token, sign string) int {
	if token.Kind == api.Sign && token.Text == sign {
		return 1
	}
	return 0
}

// closing answers which token closes the bracket that a token opens.
func closing(tokens []api.Token, i int) int {
	depth := 0
	for j := i; ; j++ {
		depth += one(tokens[j], "(") - one(tokens[j], ")")
		if depth == 0 {
			return j
		}
	}
}

// wantEachBracket leaves out one pair of brackets after the other: none may be without a use.
func wantEachBracket(t *testing.T, text string, tree []api.Node) int {
	t.Helper()
	tokens, _, _ := clause.Tokens(text)
	pairs := 0
	for i, token := range tokens {
		if one(token, "(") == 0 || !isExprBracket(tokens, i) {
			continue
		}
		pairs++
		open, end := token.At, tokens[closing(tokens, i)].At
		without := text[:open] + " " + text[open+1:end] + " " + text[end+1:]
		if other, _, errno := clause.Parse(without); errno == api.OK && slices.Equal(other, tree) {
			t.Fatalf("%q has the same tree as %q", without, text)
		}
	}
	return pairs
}

// wantSpaces holds what stands between the tokens of a text against the rules.
func wantSpaces(t *testing.T, text string) {
	t.Helper()
	tokens, _, _ := clause.Tokens(text)
	for i, token := range tokens[:len(tokens)-1] {
		next := tokens[i+1]
		behind := text[token.At+len(rawText(token)):]
		between := " "
		ahead := one(token, "-") == 1 && !endsOperand(tokens, i-1)
		if one(token, "(") == 1 || one(next, ")") == 1 || one(next, ",") == 1 || ahead && one(next, "-") == 0 {
			between = ""
		}
		if !strings.HasPrefix(text[token.At:], rawText(token)) || !strings.HasPrefix(behind, between+rawText(next)) {
			t.Fatalf("%q: between %q and %q", text, rawText(token), rawText(next))
		}
	}
	if last := tokens[len(tokens)-1]; tokens[0].At != 0 || text != text[:last.At]+rawText(last) {
		t.Fatalf("%q begins or ends with something else than a token", text)
	}
}

var bareName = regexp.MustCompile(`^[a-z_][a-z0-9_]*$`)

// rawText answers how a token must be written.
func rawText(token api.Token) string {
	switch {
	case token.Kind == api.String:
		return "'" + strings.ReplaceAll(token.Text, "'", "''") + "'"
	case token.Kind != api.Name || bareName.MatchString(token.Text) && !keyword.MatchString(strings.ToUpper(token.Text)):
		return token.Text
	}
	return `"` + strings.ReplaceAll(token.Text, `"`, `""`) + `"`
}

// full writes an expression with brackets around every operand, by nothing but its nodes, and answers the nodes behind it.
func full(tree []api.Node) (string, []api.Node) {
	n, rest := tree[0], tree[1:]
	var left, right string
	if n.Kids > 0 {
		left, rest = full(rest)
	}
	if n.Kids > 1 {
		right, rest = full(rest)
	}
	switch n.Kind {
	case api.Null:
		return "(null)", rest
	case api.Bool:
		return "(" + []string{"false", "true"}[n.Int] + ")", rest
	case api.Number:
		return "(" + strconv.Itoa(n.Int) + ")", rest
	case api.String:
		return "(" + rawText(str(n.Text, 0)) + ")", rest
	case api.Name:
		return `("` + strings.ReplaceAll(n.Text, `"`, `""`) + `")`, rest
	case api.Neg:
		return "(-" + left + ")", rest
	case api.Not:
		return "(not" + left + ")", rest
	case api.IsNull:
		return "(" + left + "is null)", rest
	case api.NotNull:
		return "(" + left + "is not null)", rest
	}
	signs := strings.Fields("or and = <> < <= > >= || + - * / %")
	return "(" + left + signs[n.Kind-api.Or] + right + ")", rest
}

func TestBracketsEverywhere(t *testing.T) { // P4
	m := &maker{Rand: rand.New(rand.NewSource(2))}
	for range 20000 {
		m.tree = nil
		m.expr(1 + m.Intn(5))
		if text, _ := full(m.tree); len(text) < 1980 {
			wantTree(t, "SELECT "+text+" FROM t", selecting(m.tree...)...)
		}
	}
}

func TestThereAndBack(t *testing.T) { // P5, P6
	m := &maker{Rand: rand.New(rand.NewSource(3))}
	texts, pairs := 0, 0
	for range 20000 {
		tree := m.statement(1 + m.Intn(6))
		text, errno := clause.Print(tree)
		if errno == api.ErrLong {
			continue
		}
		again, at, parsed := clause.Parse(text)
		if errno != api.OK || !slices.Equal(again, tree) || at != 0 || parsed != api.OK {
			t.Fatalf("Print(%v) = %q, %d, and Parse of that %v, %d, %d", tree, text, errno, again, at, parsed)
		}
		wantSpaces(t, text)
		texts++
		pairs += wantEachBracket(t, text, tree)
	}
	if texts < 10000 || pairs < 10000 {
		t.Errorf("only %d texts, with %d pairs of brackets", texts, pairs)
	}
}

// shapes are what the kids of a kind may be, by the letters of their kinds: e for an expression.
var shapes = map[int]*regexp.Regexp{
	api.Create: regexp.MustCompile(`^c{1,6}$`),
	api.Insert: regexp.MustCompile(`^r+$`),
	api.Row:    regexp.MustCompile(`^e+$`),
	api.Delete: regexp.MustCompile(`^w?$`),
	api.Update: regexp.MustCompile(`^s+w?$`),
	api.Set:    regexp.MustCompile(`^e$`),
	api.Select: regexp.MustCompile(`^[*e]+w?o*l?$`),
	api.Where:  regexp.MustCompile(`^e$`),
	api.Order:  regexp.MustCompile(`^e$`),
}

func letter(kind int) string {
	if kind >= api.Null && kind <= api.Mod {
		return "e"
	}
	if l, ok := map[int]string{api.Column: "c", api.Row: "r", api.Set: "s", api.Star: "*", api.Where: "w", api.Order: "o", api.Limit: "l"}[kind]; ok {
		return l
	}
	return "?"
}

// isShaped tells whether a node has the kids that it may have, by the letters of those.
func isShaped(kind int, kids string) bool {
	switch {
	case shapes[kind] != nil:
		return shapes[kind].MatchString(kids)
	case kind >= api.Or && kind <= api.Mod:
		return kids == "ee"
	case kind >= api.Neg && kind <= api.NotNull:
		return kids == "e"
	}
	return kids == "" && kind >= api.Create && kind <= api.Name
}

// isFilled tells whether a node says what its kind may say.
func isFilled(n api.Node) bool {
	named := slices.Contains([]int{api.Create, api.Column, api.Drop, api.Insert, api.Delete, api.Update, api.Set, api.Select, api.Name}, n.Kind)
	if !utf8.ValidString(n.Text) || strings.Contains(n.Text, "\x00") || named && (n.Text == "" || len(n.Text) > 30) || !named && n.Kind != api.String && n.Text != "" {
		return false
	}
	switch n.Kind {
	case api.Column:
		return slices.Contains([]int{1, 2, 3, 5, 6, 7}, n.Int)
	case api.Order, api.Bool:
		return n.Int == 0 || n.Int == 1
	case api.Limit:
		return n.Int >= 0 && n.Int <= 1000000000
	case api.Number:
		return true
	}
	return n.Int == 0
}

// isWell is a second reading of what is well-formed, for one node and its kids: it answers how many nodes these are and how deep the expression is, or 0.
func isWell(tree []api.Node) (int, int) {
	if len(tree) == 0 || tree[0].Kids < 0 || tree[0].Kids > len(tree) || !isFilled(tree[0]) {
		return 0, 0
	}
	length, depth, kids := 1, 0, ""
	for range tree[0].Kids {
		size, deep := isWell(tree[length:])
		if size == 0 || tree[0].Kind == api.Neg && tree[length].Kind == api.Number {
			return 0, 0
		}
		kids += letter(tree[length].Kind)
		depth = max(depth, deep)
		length += size
	}
	if letter(tree[0].Kind) == "e" {
		depth++
	}
	if !isShaped(tree[0].Kind, kids) || depth > 40 {
		return 0, 0
	}
	return length, depth
}

func isWellFormed(tree []api.Node) bool {
	size, _ := isWell(tree)
	return size > 0 && size == len(tree) && slices.Contains([]int{api.Create, api.Drop, api.Insert, api.Delete, api.Update, api.Select}, tree[0].Kind)
}

// spoil changes something of a tree.
func (m *maker) spoil(tree []api.Node) []api.Node {
	i := m.Intn(len(tree))
	other := tree[m.Intn(len(tree))]
	switch m.Intn(8) {
	case 0:
		tree[i].Kind = m.Intn(40) - 1
	case 1:
		tree[i].Text = []string{"", "a", "\xff", "\x00", strings.Repeat("n", 30), strings.Repeat("n", 31)}[m.Intn(6)]
	case 2:
		tree[i].Int = []int{-1, 0, 1, 2, 4, 5, 7, 8, 1000000000, 1000000001}[m.Intn(10)]
	case 3:
		tree[i].Kids += []int{-1, 1, 1 << 62, math.MinInt}[m.Intn(4)]
	case 4:
		return slices.Delete(tree, i, i+1)
	case 5:
		return slices.Insert(tree, i, other)
	case 6:
		tree[i] = other
	case 7:
		return append(tree, other)
	}
	return tree
}

// wantWell holds whether Print takes a tree against the second reading, and what it answers against Parse.
func wantWell(t *testing.T, tree []api.Node) bool {
	t.Helper()
	text, errno := clause.Print(tree)
	if !isWellFormed(tree) {
		if text != "" || errno != api.ErrTree {
			t.Fatalf("Print(%v) = %q, %d, want ErrTree", tree, text, errno)
		}
		return false
	}
	if errno == api.ErrLong && text == "" {
		return true
	}
	if again, _, parsed := clause.Parse(text); errno != api.OK || parsed != api.OK || !slices.Equal(again, tree) {
		t.Fatalf("Print(%v) = %q, %d, and Parse of that %v, %d", tree, text, errno, again, parsed)
	}
	return true
}

func TestSpoiltTrees(t *testing.T) { // P1, P5, P6
	m := &maker{Rand: rand.New(rand.NewSource(4))}
	well, others := 0, 0
	for range 100000 {
		tree := m.statement(1 + m.Intn(4))
		for range 1 + m.Intn(2) {
			if len(tree) > 0 {
				tree = m.spoil(tree)
			}
		}
		if wantWell(t, tree) {
			well++
		} else {
			others++
		}
	}
	if well < 5000 || others < 5000 {
		t.Errorf("%d well-formed trees and %d others: too few of one sort", well, others)
	}
}

// wantReading holds Parse of any text against Tokens and Print.
func wantReading(t *testing.T, text string) {
	t.Helper()
	tree, at, errno := clause.Parse(text)
	if _, tokenAt, token := clause.Tokens(text); token != api.OK {
		if tree != nil || at != tokenAt || errno != token {
			t.Fatalf("Parse(%q) = %v, %d, %d, want the error %d at %d of Tokens", text, tree, at, errno, token, tokenAt)
		}
		return
	}
	if errno != api.OK {
		if tree != nil || at < 0 || at > len(text) || errno < api.ErrNumber || errno > api.ErrDeep {
			t.Fatalf("Parse(%q) = %v, %d, %d", text, tree, at, errno)
		}
		return
	}
	if at != 0 || !wantWell(t, tree) {
		t.Fatalf("Parse(%q) = %v, %d, which is not well-formed", text, tree, at)
	}
	if printed, errno := clause.Print(tree); errno == api.OK {
		wantSpaces(t, printed)
		wantEachBracket(t, printed, tree)
	}
}

func FuzzParse(f *testing.F) { // P1, P4, P5, P6
	for _, text := range []string{
		"", "delete from T", "SELECT 1 - -2 FROM t", "SELECT -(-9223372036854775808) FROM t", "SELECT a = b = c FROM t", "DROP TABLE",
		"create table t(a integer not null,\"B\" text,c boolean)", "INSERT INTO t VALUES (1, 'x'), (NULL, -y)", "UPDATE t SET a = NOT b, c = d || 'e' WHERE a IS NOT NULL",
		"SELECT *, (a + b) * c FROM t WHERE a OR NOT (b AND c) ORDER BY a DESC, b ASC LIMIT 10 -- so",
	} {
		f.Add(text)
	}
	f.Fuzz(func(t *testing.T, text string) { wantReading(t, text) })
}
