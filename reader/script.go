package reader

import (
	"iter"

	"clause/api"
	"clause/fault"
)

// Statements gives the texts of the statements of a script, and tells of each whether a ; stands behind it, or panics with a fault.Fault. Only the last can be without: it is what stands behind the last ;, unless that is space and comments alone.
func Statements(script string) iter.Seq2[string, bool] {
	if len(script) > api.MaxScript {
		panic(fault.Fault{Err: api.ErrLong})
	}
	return func(yield func(string, bool) bool) {
		r := reader{text: script}
		for from := 0; r.pass(); from = r.at {
			if !r.closes() {
				yield(script[from:], false)
				return
			}
			if !yield(script[from:r.start], true) {
				return
			}
		}
	}
}

// closes goes behind the next ; and tells whether there is one. From where no token can be read nobody can say which ; would be a token, so there is none: who reads the statement comes upon that fault again.
func (r *reader) closes() (found bool) {
	defer func() {
		if caught := recover(); caught != nil {
			// A panic that is no fault goes on from here.
			fault.Told(caught)
		}
	}()
	for r.pass() {
		if token := r.next(); token.Kind == api.Sign && token.Text == ";" {
			return true
		}
	}
	return false
}
