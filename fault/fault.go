// Package fault holds what the inner packages give up with.
package fault

import "clause/api"

// Fault is what an inner package panics with when it can't go on: a deferred function of the call that began it catches it.
type Fault struct {
	At  int
	Err api.Errno
}

// Told answers what was given up with. Any other panic is a mistake of the program, not one of what was handed in, and goes on: an error would hide it.
func Told(caught any) (int, api.Errno) {
	fault, ok := caught.(Fault)
	if !ok {
		panic(caught)
	}
	return fault.At, fault.Err
}
