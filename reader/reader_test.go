package reader

import (
	"strings"
	"testing"

	"clause/api"
)

// caught answers what Tokens panicked with, or nil.
func caught(text string) (value any) {
	defer func() { value = recover() }()
	Tokens(text)
	return nil
}

func TestGivesUpByAFault(t *testing.T) {
	for text, want := range map[string]Fault{
		"a ?":                     {2, api.ErrToken},
		"a 'b":                    {2, api.ErrToken},
		"a \"\"":                  {2, api.ErrToken},
		"a 1b":                    {2, api.ErrToken},
		"a 9223372036854775809":   {2, api.ErrNumber},
		strings.Repeat(" ", 2001): {0, api.ErrLong},
	} {
		if got := caught(text); got != want {
			t.Errorf("Tokens(%.30q) panics with %v, want %v", text, got, want)
		}
	}
	if got := caught("a 'b' 1"); got != nil {
		t.Errorf("Tokens panics with %v at a good text", got)
	}
}
