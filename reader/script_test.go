package reader

import (
	"slices"
	"strings"
	"testing"

	"clause/api"
	"clause/fault"
)

// statementsOf writes the statements of a script, each with a ! behind it where a ; stands and with a ? where none does.
func statementsOf(script string) []string {
	var list []string
	for text, closed := range Statements(script) {
		mark := "?"
		if closed {
			mark = "!"
		}
		list = append(list, text+mark)
	}
	return list
}

func TestStatements(t *testing.T) {
	for script, want := range map[string][]string{
		"":                         nil,
		" -- a;b\n\t\r--":          nil,
		"a":                        {"a?"},
		"a;":                       {"a!"},
		";":                        {"!"},
		";;":                       {"!", "!"},
		" ; -- ;\n ; ":             {" !", " -- ;\n !"},
		"a ; b;c":                  {"a !", " b!", "c?"},
		"a;b -- ;\n":               {"a!", "b -- ;\n?"},
		"a;-- b;\n":                {"a!"},
		"';' \";\" -- ;\n;b":       {"';' \";\" -- ;\n!", "b?"},
		"'a'';';\"b\"\";\";":       {"'a'';'!", "\"b\"\";\"!"},
		"a; ?;b;":                  {"a!", " ?;b;?"},
		"a;';b;\";c;":              {"a!", "';b;\";c;?"},
		"a;\";b;":                  {"a!", "\";b;?"},
		"a;\"\";b;":                {"a!", "\"\";b;?"},
		"a;1b;c;":                  {"a!", "1b;c;?"},
		"a;9223372036854775809;c;": {"a!", "9223372036854775809;c;?"},
		"a;9223372036854775808;c;": {"a!", "9223372036854775808!", "c!"},
		"a;b c '\xff';d;":          {"a!", "b c '\xff';d;?"},
		"a--\xff\x00;\n;'é;😀';":    {"a--\xff\x00;\n!", "'é;😀'!"},
		"1--;":                     {"1--;?"},
		"1-;-\n-;":                 {"1-!", "-\n-!"},
	} {
		if got := statementsOf(script); !slices.Equal(got, want) {
			t.Errorf("Statements(%q) gives %q, want %q", script, got, want)
		}
	}
}

// TestStatementsAreLeft: who has enough of them leaves, behind any of them.
func TestStatementsAreLeft(t *testing.T) {
	for most := range 4 {
		var got []string
		for text := range Statements("a;b;c;d") {
			got = append(got, text)
			if len(got) > most {
				break
			}
		}
		if !slices.Equal(got, []string{"a", "b", "c", "d"}[:most+1]) {
			t.Errorf("%q", got)
		}
	}
}

// TestStatementsTwice: what Statements answers can be gone through again, from the beginning.
func TestStatementsTwice(t *testing.T) {
	given := Statements("a;b")
	for range 2 {
		var got []string
		for text := range given {
			got = append(got, text)
		}
		if !slices.Equal(got, []string{"a", "b"}) {
			t.Errorf("%q", got)
		}
	}
}

// TestStatementsPassPanicsOn: what goes wrong where a statement is used is not taken for a fault of the script.
func TestStatementsPassPanicsOn(t *testing.T) {
	for _, script := range []string{"a;b", "a", "?"} {
		func() {
			want := fault.Fault{At: 7, Err: api.ErrZero}
			defer func() {
				if caught := recover(); caught != want {
					t.Errorf("%q: caught %v", script, caught)
				}
			}()
			for range Statements(script) {
				panic(want)
			}
		}()
	}
}

func TestLongScripts(t *testing.T) {
	if got := statementsOf(strings.Repeat("a;", api.MaxScript/2)); len(got) != api.MaxScript/2 || got[0] != "a!" || got[len(got)-1] != "a!" {
		t.Errorf("%d statements", len(got))
	}
	defer func() {
		if caught := recover(); caught != (fault.Fault{Err: api.ErrLong}) {
			t.Errorf("caught %v", caught)
		}
	}()
	Statements(strings.Repeat(" ", api.MaxScript+1))
	t.Error("a script that is too long is taken")
}
