package witness

import (
	"errors"
	"reflect"
	"testing"

	"moot/api"
	"moot/keccak"
	"moot/merkle"
)

func hashOf(n int) api.Hash { return keccak.Sum([]byte{byte(n), byte(n >> 8)}) }

func zero(h int) api.Hash {
	nought, err := merkle.Zero(h)
	if err != nil {
		panic(err)
	}
	return nought
}

func pre(a, b api.Hash) api.Pre {
	var p api.Pre
	copy(p[:], a[:])
	copy(p[32:], b[:])
	return p
}

// P6.1: what a new store has.
func TestNew(t *testing.T) {
	s := New()
	if s.Len() != 16 || len(s.Asked()) != 0 {
		t.Errorf("%d, %v", s.Len(), s.Asked())
	}
	for h := 1; h <= 16; h++ {
		if p, err := s.Get(zero(h)); p != pre(zero(h-1), zero(h-1)) || err != nil {
			t.Errorf("nought %d: %x, %v", h, p, err)
		}
	}
	if _, err := s.Get(api.Hash{}); err != api.ErrMissing {
		t.Errorf("nought 0: %v", err)
	}
}

// P6.1: preimages come and go.
func TestAddGetDrop(t *testing.T) {
	s := New()
	p := api.Pre{1, 2, 3}
	h, err := s.Add(p)
	if h != keccak.Sum(p[:]) || err != nil || s.Len() != 17 {
		t.Fatalf("%x, %v, %d", h, err, s.Len())
	}
	if again, err := s.Add(p); again != h || err != nil || s.Len() != 17 {
		t.Errorf("Add again: %x, %v, %d", again, err, s.Len())
	}
	if got, err := s.Get(h); got != p || err != nil {
		t.Errorf("Get: %x, %v", got, err)
	}
	if err := s.Drop(h); err != nil || s.Len() != 16 {
		t.Errorf("Drop: %v, %d", err, s.Len())
	}
	if got, err := s.Get(h); got != (api.Pre{}) || err != api.ErrMissing {
		t.Errorf("Get behind Drop: %x, %v", got, err)
	}
	if err := s.Drop(h); err != api.ErrMissing {
		t.Errorf("Drop again: %v", err)
	}
	if err := s.Drop(zero(3)); err != nil || s.Len() != 15 {
		t.Errorf("Drop of a nought: %v, %d", err, s.Len())
	}
	var f *api.Fault
	if _, err := s.Read(4, zero(4), 0); !errors.As(err, &f) || f.At != 1 || !errors.Is(err, api.ErrMissing) {
		t.Errorf("Read below a dropped nought: %v", err)
	}
}

// P6.1: what was asked, each once, in order, since the last time.
func TestAsked(t *testing.T) {
	s := New()
	unknown := hashOf(1)
	s.Get(unknown)
	s.Get(zero(2))
	s.Get(unknown)
	s.Read(3, zero(3), 7)
	s.Add(api.Pre{9})
	s.Drop(zero(9))
	if got, want := s.Asked(), []api.Hash{unknown, zero(2), zero(3), zero(1)}; !reflect.DeepEqual(got, want) {
		t.Errorf("%x", got)
	}
	if got := s.Asked(); len(got) != 0 {
		t.Errorf("asked again: %x", got)
	}
	s.Write(1, zero(1), 0, hashOf(2))
	s.Write(2, hashOf(3), 0, hashOf(2))
	s.Read(0, hashOf(4), 0)
	if got, want := s.Asked(), []api.Hash{zero(1), hashOf(3)}; !reflect.DeepEqual(got, want) {
		t.Errorf("behind writes: %x", got)
	}
}

// P6.1: a copy is a store of its own.
func TestCopy(t *testing.T) {
	s := New()
	s.Get(zero(1))
	c := s.Copy()
	if c.Len() != 16 || len(c.Asked()) != 0 {
		t.Errorf("copy: %d, %v", c.Len(), c.Asked())
	}
	c.Add(api.Pre{1})
	s.Drop(zero(5))
	c.Get(zero(6))
	if s.Len() != 15 || c.Len() != 17 {
		t.Errorf("%d, %d", s.Len(), c.Len())
	}
	if got := s.Asked(); len(got) != 1 || got[0] != zero(1) {
		t.Errorf("asked of the first one: %x", got)
	}
}

// P6.2, P6.3: leaves that are written are read, at all depths, beside all others.
func TestReadAndWrite(t *testing.T) {
	for depth := 0; depth <= 5; depth++ {
		s := New()
		root := zero(depth)
		leaves := make([]api.Hash, 1<<depth)
		for n := range 3 << depth {
			i := n * 5 % (1 << depth)
			leaves[i] = hashOf(n)
			next, err := s.Write(depth, root, i, leaves[i])
			if want, _ := merkle.Root(depth, leaves); next != want || err != nil {
				t.Fatalf("Write at depth %d: %x, %v", depth, next, err)
			}
			root = next
			for j, want := range leaves {
				if got, err := s.Read(depth, root, j); got != want || err != nil {
					t.Fatalf("Read %d at depth %d: %x, %v", j, depth, got, err)
				}
			}
		}
	}
}

// P6.3: what a write adds is just the way to the new root; the old tree can be read still.
func TestWriteAdds(t *testing.T) {
	s := New()
	a := hashOf(1)
	root, err := s.Write(1, zero(1), 1, a)
	if root != keccak.Pair(api.Hash{}, a) || err != nil || s.Len() != 17 {
		t.Fatalf("%x, %v, %d", root, err, s.Len())
	}
	if p, err := s.Get(root); p != pre(api.Hash{}, a) || err != nil {
		t.Errorf("%x, %v", p, err)
	}
	deep, err := s.Write(16, zero(16), 1<<16-1, a)
	if err != nil || s.Len() != 17+15 {
		t.Errorf("%v, %d", err, s.Len())
	}
	if got, _ := s.Read(16, deep, 1<<16-1); got != a {
		t.Errorf("%x", got)
	}
	if got, _ := s.Read(16, zero(16), 1<<16-1); got != (api.Hash{}) {
		t.Errorf("the old tree: %x", got)
	}
}

// P6.3: a nought that was dropped is there again, where a write leads by it.
func TestWriteBringsBack(t *testing.T) {
	s := New()
	root, _ := s.Write(1, zero(1), 0, hashOf(1))
	s.Drop(zero(1))
	if back, err := s.Write(1, root, 0, api.Hash{}); back != zero(1) || err != nil || s.Len() != 17 {
		t.Errorf("%x, %v, %d", back, err, s.Len())
	}
}

// P6.2, P6.3: the errors, and that nothing is added with one.
func TestTreeErrors(t *testing.T) {
	s := New()
	for _, c := range []struct{ depth, i int }{{-1, 0}, {17, 0}, {3, -1}, {3, 8}, {0, 1}, {1 << 40, 0}, {16, 1 << 16}} {
		if got, err := s.Read(c.depth, zero(3), c.i); got != (api.Hash{}) || err != api.ErrRange {
			t.Errorf("Read %d, %d: %x, %v", c.depth, c.i, got, err)
		}
		if got, err := s.Write(c.depth, zero(3), c.i, hashOf(1)); got != (api.Hash{}) || err != api.ErrRange {
			t.Errorf("Write %d, %d: %x, %v", c.depth, c.i, got, err)
		}
	}
	unknown := hashOf(7)
	top, _ := s.Add(pre(zero(1), unknown))
	n := s.Len()
	for _, c := range []struct {
		depth, i, at int
		root         api.Hash
	}{{2, 0, 0, unknown}, {2, 2, 1, top}, {2, 3, 1, top}, {3, 7, 1, top}, {3, 0, 2, top}} {
		var f *api.Fault
		got, err := s.Read(c.depth, c.root, c.i)
		if got != (api.Hash{}) || !errors.As(err, &f) || f.At != c.at || !errors.Is(err, api.ErrMissing) {
			t.Errorf("Read %d: %x, %v; want a Fault at %d", c.i, got, err, c.at)
		}
		got, err = s.Write(c.depth, c.root, c.i, hashOf(1))
		if got != (api.Hash{}) || !errors.As(err, &f) || f.At != c.at || !errors.Is(err, api.ErrMissing) || s.Len() != n {
			t.Errorf("Write %d: %x, %v; want a Fault at %d", c.i, got, err, c.at)
		}
	}
	if got, err := s.Read(1, top, 1); got != unknown || err != nil {
		t.Errorf("a leaf needs no preimage: %x, %v", got, err)
	}
}

// P6.1 to P6.4: a nil store.
func TestNil(t *testing.T) {
	var s *Store
	_, add := s.Add(api.Pre{})
	_, get := s.Get(api.Hash{})
	_, read := s.Read(-1, api.Hash{}, 0)
	_, write := s.Write(-1, api.Hash{}, 0, api.Hash{})
	for i, err := range []error{add, get, read, write, s.Drop(api.Hash{})} {
		if err != api.ErrNil {
			t.Errorf("%d: %v", i, err)
		}
	}
	a, b, ok := s.Clash()
	if s.Len() != 0 || len(s.Asked()) != 0 || s.Copy() != nil || ok || a != (api.Pre{}) || b != (api.Pre{}) {
		t.Error("nil is not none")
	}
}

// P6.4: there is no clash, whatever is added; and one that is made by hand is told by all of the kin, the first one of several.
func TestClash(t *testing.T) {
	s := New()
	c := s.Copy()
	c.Add(api.Pre{1})
	c.Write(3, zero(3), 1, hashOf(1))
	for _, x := range []*Store{s, c, {}} {
		if a, b, ok := x.Clash(); ok || a != (api.Pre{}) || b != (api.Pre{}) {
			t.Error("a clash of nothing")
		}
	}
	h := hashOf(1)
	for n, p := range []api.Pre{{1}, {1}, {2}, {3}} {
		if n == 3 {
			s.kin.note(hashOf(2), api.Pre{5})
			s.kin.note(hashOf(2), api.Pre{6})
		}
		s.kin.note(h, p)
	}
	for _, x := range []*Store{s, c, c.Copy()} {
		if a, b, ok := x.Clash(); !ok || a != (api.Pre{1}) || b != (api.Pre{2}) {
			t.Errorf("%v: %x, %x", ok, a, b)
		}
	}
	if _, _, ok := New().Clash(); ok {
		t.Error("another kin has it, too")
	}
}

// A store that takes over a copy has its preimages, and its own digests that were asked.
func TestTake(t *testing.T) {
	s := New()
	s.Get(zero(3))
	c := s.Copy()
	h, _ := c.Add(api.Pre{7})
	c.Drop(zero(4))
	s.Take(c)
	if s.Len() != 16 || s.Drop(h) != nil || s.Drop(zero(4)) != api.ErrMissing {
		t.Error("other preimages")
	}
	if asked := s.Asked(); len(asked) != 1 || asked[0] != zero(3) {
		t.Errorf("asked %x", asked)
	}
	var none *Store
	none.Take(s)
	s.Take(none)
	if s.Len() != 15 {
		t.Error("nil was taken")
	}
}

// P1: a store that New did not give does not panic.
func TestBareStore(t *testing.T) {
	s := &Store{}
	if _, err := s.Get(api.Hash{}); err != api.ErrMissing {
		t.Error(err)
	}
	h, err := s.Copy().Add(api.Pre{})
	if h != zero(1) || err != nil {
		t.Error(err)
	}
	if _, err := s.Write(1, h, 0, h); err == nil {
		t.Error("a copy's preimage is in the first one")
	}
}
