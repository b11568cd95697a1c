package reader

import (
	"strings"
	"testing"

	"clause/api"
	"clause/fault"
)

// caught answers what Tokens panicked with, or nil.
func caught(text string) (value any) {
	defer func() { value = recover() }()
	Tokens(text)
	return nil
}

func TestGivesUpByAFault(t *testing.T) {
	for text, want := range map[string]fault.Fault{
		"a ?":                     {At: 2, Err: api.ErrToken},
		"a 'b":                    {At: 2, Err: api.ErrToken},
		"a \"\"":                  {At: 2, Err: api.ErrToken},
		"a 1b":                    {At: 2, Err: api.ErrToken},
		"a 9223372036854775809":   {At: 2, Err: api.ErrNumber},
		strings.Repeat(" ", 2001): {At: 0, Err: api.ErrLong},
	} {
		if got := caught(text); got != want {
			t.Errorf("Tokens(%.30q) panics with %v, want %v", text, got, want)
		}
	}
	if got := caught("a 'b' 1"); got != nil {
		t.Errorf("Tokens panics with %v at a good text", got)
	}
}

func TestIsBare(t *testing.T) {
	for name, want := range map[string]bool{
		"a": true, "_": true, "a_9": true, "selects": true,
		"": false, "9": false, "9a": false, "A": false, "aB": false, "a b": false, "é": false, "aé": false, "a\xff": false, "or": false, "OR": false, "select": false,
	} {
		if got := IsBare(name); got != want {
			t.Errorf("IsBare(%q) = %v", name, got)
		}
	}
}
