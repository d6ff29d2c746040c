package merkle

import (
	"testing"

	"moot/api"
	"moot/keccak"
)

func leavesOf(n int) []api.Hash {
	list := make([]api.Hash, n)
	for i := range list {
		if i%3 != 1 {
			list[i] = keccak.Sum([]byte{byte(i), byte(i >> 8)})
		}
	}
	return list
}

// slowRoot: the digest above the leaves from begin on, straight from the words of the document.
func slowRoot(depth int, leaves []api.Hash, begin int) api.Hash {
	if depth == 0 {
		if begin < len(leaves) {
			return leaves[begin]
		}
		return api.Hash{}
	}
	half := 1 << (depth - 1)
	return keccak.Pair(slowRoot(depth-1, leaves, begin), slowRoot(depth-1, leaves, begin+half))
}

// P5.1: noughts of all heights.
func TestZero(t *testing.T) {
	want := api.Hash{}
	for h := 0; h <= 16; h++ {
		if got, err := Zero(h); got != want || err != nil {
			t.Errorf("Zero %d: %x, %v", h, got, err)
		}
		want = keccak.Pair(want, want)
	}
	for _, h := range []int{-1, 17, 1 << 62, -1 << 63} {
		if got, err := Zero(h); got != (api.Hash{}) || err != api.ErrRange {
			t.Errorf("Zero %d: %x, %v", h, got, err)
		}
	}
}

// P5.2, P5.3: roots and paths of trees of all small shapes, and back by Fold.
func TestRootPathFold(t *testing.T) {
	for depth := 0; depth <= 5; depth++ {
		for n := 0; n <= 1<<depth; n++ {
			leaves := leavesOf(n)
			root, err := Root(depth, leaves)
			if want := slowRoot(depth, leaves, 0); root != want || err != nil {
				t.Fatalf("Root %d of %d: %x, %v", depth, n, root, err)
			}
			for i := range 1 << depth {
				path, err := Path(depth, leaves, i)
				if len(path) != depth || err != nil {
					t.Fatalf("Path %d of %d, %d: %d, %v", depth, n, i, len(path), err)
				}
				for h, beside := range path {
					if want := slowRoot(h, leaves, (i>>h^1)<<h); beside != want {
						t.Fatalf("Path %d of %d, %d: at %d", depth, n, i, h)
					}
				}
				if back, err := Fold(i, slowRoot(0, leaves, i), path); back != root || err != nil {
					t.Fatalf("Fold %d: %x, %v", i, back, err)
				}
				if back, _ := Fold(i, api.Hash{1}, path); back == root {
					t.Fatal("Fold of another leaf is the same")
				}
			}
		}
	}
}

// P5.2: the deepest tree, full and empty.
func TestDeepest(t *testing.T) {
	nought, _ := Zero(16)
	if root, err := Root(16, nil); root != nought || err != nil {
		t.Errorf("%x, %v", root, err)
	}
	leaves := leavesOf(1 << 16)
	root, err := Root(16, leaves)
	if err != nil {
		t.Fatal(err)
	}
	path, err := Path(16, leaves, 1<<16-1)
	if err != nil {
		t.Fatal(err)
	}
	if back, err := Fold(1<<16-1, leaves[1<<16-1], path); back != root || err != nil {
		t.Errorf("%x, %v", back, err)
	}
}

// P5.2: the errors in their order; what is handed in stays.
func TestErrors(t *testing.T) {
	a, b := api.Hash{1}, api.Hash{2}
	for _, c := range []struct {
		depth, n int
		want     error
	}{{-1, 0, api.ErrRange}, {17, 1 << 18, api.ErrRange}, {0, 2, api.ErrFull}, {1, 3, api.ErrFull}, {16, 1<<16 + 1, api.ErrFull}} {
		if root, err := Root(c.depth, make([]api.Hash, c.n)); root != (api.Hash{}) || err != c.want {
			t.Errorf("Root %d of %d: %x, %v", c.depth, c.n, root, err)
		}
		if path, err := Path(c.depth, make([]api.Hash, c.n), -1); path != nil || err != c.want {
			t.Errorf("Path %d of %d: %v, %v", c.depth, c.n, path, err)
		}
	}
	for _, i := range []int{-1, 2, 1 << 62} {
		if path, err := Path(1, []api.Hash{a}, i); path != nil || err != api.ErrRange {
			t.Errorf("Path of %d: %v, %v", i, path, err)
		}
		if root, err := Fold(i, a, []api.Hash{b}); root != (api.Hash{}) || err != api.ErrRange {
			t.Errorf("Fold of %d: %x, %v", i, root, err)
		}
	}
	if _, err := Fold(1, a, nil); err != api.ErrRange {
		t.Errorf("Fold without a path: %v", err)
	}
	if root, err := Fold(0, a, nil); root != a || err != nil {
		t.Errorf("Fold without a path: %x, %v", root, err)
	}
	if _, err := Fold(0, a, make([]api.Hash, 17)); err != api.ErrRange {
		t.Errorf("Fold of a long path: %v", err)
	}
	if _, err := Fold(1<<16-1, a, make([]api.Hash, 16)); err != nil {
		t.Errorf("Fold of the longest path: %v", err)
	}
	list := append(make([]api.Hash, 0, 8), a, b, a)
	Root(3, list)
	Path(3, list, 0)
	if list[0] != a || list[1] != b || list[2] != a || list[:4][3] != (api.Hash{}) {
		t.Error("what was handed in has changed")
	}
}

// P5.2: the document's examples.
func TestExamples(t *testing.T) {
	a, b := api.Hash{1}, api.Hash{2}
	if root, _ := Root(1, []api.Hash{a}); root != keccak.Pair(a, api.Hash{}) {
		t.Errorf("%x", root)
	}
	if path, _ := Path(1, []api.Hash{a}, 1); len(path) != 1 || path[0] != a {
		t.Errorf("%v", path)
	}
	if root, _ := Fold(1, b, []api.Hash{a}); root != keccak.Pair(a, b) {
		t.Errorf("%x", root)
	}
}
