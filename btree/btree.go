// Package btree holds values by their keys, in the order of these.
package btree

import (
	"cmp"
	"iter"
	"slices"
)

// How many entries a node has: the root may have fewer than the least.
const (
	least = 3
	most  = 2 * least
)

// Tree is a B-tree. A new one is empty.
type Tree[K cmp.Ordered, V any] struct {
	root  node[K, V]
	count int
}

// node has no kids, if it is a leaf; else one more than entries: each entry lies between the kids at its own place and at the next.
type node[K cmp.Ordered, V any] struct {
	entries []entry[K, V]
	kids    []*node[K, V]
}

type entry[K cmp.Ordered, V any] struct {
	key   K
	value V
}

// Len answers how many keys there are.
func (t *Tree[K, V]) Len() int { return t.count }

// Get answers the value of a key, or false if there is none.
func (t *Tree[K, V]) Get(key K) (V, bool) {
	n := &t.root
	for {
		at, found := n.find(key)
		if found {
			return n.entries[at].value, true
		}
		if n.isLeaf() {
			var none V
			return none, false
		}
		n = n.kids[at]
	}
}

// Put gives a key its value, in place of the one that it has.
func (t *Tree[K, V]) Put(key K, value V) {
	if t.root.put(entry[K, V]{key, value}) {
		t.count++
	}
	if len(t.root.entries) > most {
		old := t.root
		t.root = node[K, V]{kids: []*node[K, V]{&old}}
		t.root.split(0)
	}
}

// Delete takes a key and its value away, if it is there.
func (t *Tree[K, V]) Delete(key K) {
	if t.root.remove(key) {
		t.count--
	}
	if len(t.root.entries) == 0 && !t.root.isLeaf() {
		t.root = *t.root.kids[0]
	}
}

// All gives the keys and their values, by rising keys. The tree must not be changed on the way.
func (t *Tree[K, V]) All() iter.Seq2[K, V] {
	return func(yield func(K, V) bool) { t.root.walk(yield) }
}

func (n *node[K, V]) isLeaf() bool { return len(n.kids) == 0 }

// find answers where a key stands among the entries, or else where it would.
func (n *node[K, V]) find(key K) (int, bool) {
	return slices.BinarySearchFunc(n.entries, key, func(e entry[K, V], key K) int {
		return cmp.Compare(e.key, key)
	})
}

// put tells whether the key is new.
func (n *node[K, V]) put(e entry[K, V]) bool {
	at, found := n.find(e.key)
	if found {
		n.entries[at] = e
		return false
	}
	if n.isLeaf() {
		n.entries = slices.Insert(n.entries, at, e)
		return true
	}
	isNew := n.kids[at].put(e)
	if len(n.kids[at].entries) > most {
		n.split(at)
	}
	return isNew
}

// split makes two out of the kid at a place, and the entry between them comes up.
func (n *node[K, V]) split(at int) {
	low := n.kids[at]
	high := &node[K, V]{entries: cutOff(&low.entries, least+1)}
	if !low.isLeaf() {
		high.kids = cutOff(&low.kids, least+1)
	}
	n.entries = slices.Insert(n.entries, at, takeOut(&low.entries, least))
	n.kids = slices.Insert(n.kids, at+1, high)
}

// remove tells whether the key was there.
func (n *node[K, V]) remove(key K) bool {
	at, found := n.find(key)
	switch {
	case n.isLeaf():
		if found {
			takeOut(&n.entries, at)
		}
		return found
	case found:
		// Only a leaf can do without an entry, so one of a leaf takes its place.
		n.entries[at] = n.kids[at].removeLast()
	default:
		found = n.kids[at].remove(key)
	}
	n.mend(at)
	return found
}

func (n *node[K, V]) removeLast() entry[K, V] {
	if n.isLeaf() {
		return takeOut(&n.entries, len(n.entries)-1)
	}
	at := len(n.kids) - 1
	last := n.kids[at].removeLast()
	n.mend(at)
	return last
}

// mend sees to it that the kid at a place has entries enough, after one is gone: from a neighbour that can spare one, or else together with a neighbour.
func (n *node[K, V]) mend(at int) {
	switch {
	case !n.isShort(at, least):
		return
	case at > 0 && !n.isShort(at-1, least+1):
		n.turnRight(at - 1)
	case at+1 < len(n.kids) && !n.isShort(at+1, least+1):
		n.turnLeft(at)
	case at > 0:
		n.join(at - 1)
	default:
		n.join(at)
	}
}

// isShort tells whether the kid at a place has fewer entries than that.
func (n *node[K, V]) isShort(at, entries int) bool {
	return len(n.kids[at].entries) < entries
}

// turnRight moves the last entry of the kid at a place up, and the one that was there down to the next kid.
func (n *node[K, V]) turnRight(at int) {
	low, high := n.kids[at], n.kids[at+1]
	high.entries = slices.Insert(high.entries, 0, n.entries[at])
	n.entries[at] = takeOut(&low.entries, len(low.entries)-1)
	if !low.isLeaf() {
		high.kids = slices.Insert(high.kids, 0, takeOut(&low.kids, len(low.kids)-1))
	}
}

// turnLeft moves the first entry of the kid behind a place up, and the one that was there down to the kid at it.
func (n *node[K, V]) turnLeft(at int) {
	low, high := n.kids[at], n.kids[at+1]
	low.entries = append(low.entries, n.entries[at])
	n.entries[at] = takeOut(&high.entries, 0)
	if !high.isLeaf() {
		low.kids = append(low.kids, takeOut(&high.kids, 0))
	}
}

// join makes one out of the kid at a place, the entry there and the next kid.
func (n *node[K, V]) join(at int) {
	low, high := n.kids[at], takeOut(&n.kids, at+1)
	low.entries = append(low.entries, takeOut(&n.entries, at))
	low.entries = append(low.entries, high.entries...)
	low.kids = append(low.kids, high.kids...)
}

// walk tells whether to go on behind it.
func (n *node[K, V]) walk(yield func(K, V) bool) bool {
	for i, e := range n.entries {
		if !n.walkKid(i, yield) || !yield(e.key, e.value) {
			return false
		}
	}
	return n.walkKid(len(n.entries), yield)
}

func (n *node[K, V]) walkKid(at int, yield func(K, V) bool) bool {
	return n.isLeaf() || n.kids[at].walk(yield)
}

// takeOut takes what stands at a place out of a list, and answers it.
func takeOut[T any](list *[]T, at int) T {
	taken := (*list)[at]
	*list = slices.Delete(*list, at, at+1)
	return taken
}

// cutOff takes all from a place on out of a list, and answers it as a list of its own.
func cutOff[T any](list *[]T, from int) []T {
	taken := slices.Clone((*list)[from:])
	*list = slices.Delete(*list, from, len(*list))
	return taken
}
