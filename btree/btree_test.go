package btree

import (
	"maps"
	"math/rand"
	"slices"
	"testing"
)

// depth answers how deep a node is, and fails if it breaks a rule of the tree.
func depth(t *testing.T, n *node[int, string], isRoot bool) int {
	t.Helper()
	if len(n.entries) > most || len(n.entries) < least && !isRoot {
		t.Fatalf("a node has %d entries", len(n.entries))
	}
	if n.isLeaf() {
		return 1
	}
	if len(n.kids) != len(n.entries)+1 {
		t.Fatalf("a node has %d entries and %d kids", len(n.entries), len(n.kids))
	}
	first := depth(t, n.kids[0], false)
	for _, kid := range n.kids[1:] {
		if other := depth(t, kid, false); other != first {
			t.Fatalf("kids are %d and %d deep", first, other)
		}
	}
	return 1 + first
}

// wantAll holds a tree against all that it must have.
func wantAll(t *testing.T, tree *Tree[int, string], want map[int]string) {
	t.Helper()
	depth(t, &tree.root, true)
	if tree.Len() != len(want) {
		t.Fatalf("Len() = %d, want %d", tree.Len(), len(want))
	}
	var keys []int
	for key, value := range tree.All() {
		keys = append(keys, key)
		if value != want[key] {
			t.Fatalf("%d has %q, want %q", key, value, want[key])
		}
	}
	if !slices.Equal(keys, slices.Sorted(maps.Keys(want))) {
		t.Fatalf("the keys are %v, want those of %v", keys, want)
	}
}

func wantGet(t *testing.T, tree *Tree[int, string], key int, want map[int]string) {
	t.Helper()
	value, is := tree.Get(key)
	wanted, must := want[key]
	if value != wanted || is != must {
		t.Fatalf("Get(%d) = %q, %v, want %q, %v", key, value, is, wanted, must)
	}
}

func TestNewTree(t *testing.T) {
	var tree Tree[int, string]
	tree.Delete(1)
	wantAll(t, &tree, nil)
	wantGet(t, &tree, 1, nil)
}

func TestPutAndDeleteByChance(t *testing.T) {
	r := rand.New(rand.NewSource(1))
	for _, keys := range []int{5, 20, 100, 1000} {
		var tree Tree[int, string]
		want := map[int]string{}
		for step := range 4000 {
			key := r.Intn(keys) - keys/2
			// The share of the deletes goes up and down, so that the tree grows and shrinks.
			if r.Intn(4000) < (step*3)%4000 {
				tree.Delete(key)
				delete(want, key)
			} else {
				value := string(rune('a' + r.Intn(26)))
				tree.Put(key, value)
				want[key] = value
			}
			wantGet(t, &tree, key, want)
			wantGet(t, &tree, r.Intn(keys), want)
			wantAll(t, &tree, want)
		}
	}
}

// orders answers the numbers below a bound in several orders.
func orders(bound int) [][]int {
	var rising []int
	for i := range bound {
		rising = append(rising, i)
	}
	falling := slices.Clone(rising)
	slices.Reverse(falling)
	inward := slices.Clone(rising)
	for i := range inward {
		if i%2 == 1 {
			inward[i] = bound - 1 - i/2
		} else {
			inward[i] = i / 2
		}
	}
	outward := slices.Clone(inward)
	slices.Reverse(outward)
	return [][]int{rising, falling, inward, outward, rand.New(rand.NewSource(2)).Perm(bound)}
}

func TestPutAllAndDeleteAll(t *testing.T) {
	for _, bound := range []int{1, most, most + 1, 2 * most, 60, 250} {
		for _, in := range orders(bound) {
			for _, out := range orders(bound) {
				var tree Tree[int, string]
				want := map[int]string{}
				for _, key := range in {
					tree.Put(key, "x")
					want[key] = "x"
				}
				wantAll(t, &tree, want)
				for _, key := range out {
					tree.Delete(key)
					delete(want, key)
					depth(t, &tree.root, true)
				}
				wantAll(t, &tree, want)
			}
		}
	}
}

// TestIsBroad: a tree of which each node has few kids would be deep.
func TestIsBroad(t *testing.T) {
	var tree Tree[int, string]
	for key := range 200 {
		tree.Put(key, "")
	}
	if got := depth(t, &tree.root, true); got > 4 {
		t.Errorf("200 keys are %d deep", got)
	}
}

func TestPutAgain(t *testing.T) {
	var tree Tree[int, string]
	want := map[int]string{}
	for _, value := range []string{"first", "second"} {
		for key := range 100 {
			tree.Put(key, value)
			want[key] = value
		}
	}
	wantAll(t, &tree, want)
}

func TestAllCanBeLeft(t *testing.T) {
	var tree Tree[int, string]
	for key := range 100 {
		tree.Put(key, "")
	}
	for last := range 100 {
		seen := 0
		for key := range tree.All() {
			if key != seen {
				t.Fatalf("the key %d stands at place %d", key, seen)
			}
			seen++
			if key == last {
				break
			}
		}
		if seen != last+1 {
			t.Fatalf("%d keys were seen up to %d", seen, last)
		}
	}
}

func TestKeysOfText(t *testing.T) {
	var tree Tree[string, int]
	for i, key := range []string{"b", "", "a b", "B", "é", "a", "aa", "z", "_", "1"} {
		tree.Put(key, i)
	}
	var keys []string
	for key := range tree.All() {
		keys = append(keys, key)
	}
	want := []string{"", "1", "B", "_", "a", "a b", "aa", "b", "z", "é"}
	if !slices.Equal(keys, want) {
		t.Errorf("the keys are %q, want %q", keys, want)
	}
}

// TestForgets: what is gone must not be held on to by a list's spare room.
func TestForgets(t *testing.T) {
	var tree Tree[int, *int]
	for key := range 200 {
		tree.Put(key, new(int))
	}
	for key := range 200 {
		tree.Delete(key)
	}
	for _, e := range tree.root.entries[:cap(tree.root.entries)] {
		if e.value != nil {
			t.Fatal("a value that is gone is still held")
		}
	}
}
