package fault

import (
	"testing"

	"clause/api"
)

func TestTold(t *testing.T) {
	if at, errno := Told(Fault{At: 7, Err: api.ErrSyntax}); at != 7 || errno != api.ErrSyntax {
		t.Errorf("Told = %d, %d", at, errno)
	}
}

// TestOtherPanics: an error of what was handed in would hide a mistake of the program.
func TestOtherPanics(t *testing.T) {
	defer func() {
		if caught := recover(); caught != "a mistake" {
			t.Errorf("caught %v", caught)
		}
	}()
	Told("a mistake")
	t.Error("Told has hidden a panic that is no Fault")
}
