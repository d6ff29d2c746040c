package state

import (
	"bytes"
	"errors"
	"testing"

	"moot/api"
	"moot/keccak"
	"moot/merkle"
	"moot/witness"
)

func empty(t *testing.T) (*witness.Store, *State) {
	t.Helper()
	s := witness.New()
	root, err := merkle.Zero(api.StateDepth)
	if err != nil {
		t.Fatal(err)
	}
	x, err := New(s, root)
	if err != nil {
		t.Fatal(err)
	}
	return s, x
}

func leafOf(v uint64) api.Hash {
	h := api.Hash{}
	for i := range 8 {
		h[31-i] = byte(v >> (8 * i))
	}
	return h
}

func wantWord(t *testing.T, x *State, account, slot, want uint64) {
	t.Helper()
	if v, err := x.Word(account, slot); v != want || err != nil {
		t.Errorf("word %d of %d: %d, %v; want %d", slot, account, v, err, want)
	}
}

// wantFault: a Fault of ErrMissing at a level.
func wantFault(t *testing.T, err error, at int) {
	t.Helper()
	var f *api.Fault
	if !errors.As(err, &f) || f.At != at || !errors.Is(err, api.ErrMissing) {
		t.Errorf("%v; want a Fault of ErrMissing at %d", err, at)
	}
}

// P7.1: states without a store, and roots.
func TestNewAndRoot(t *testing.T) {
	if x, err := New(nil, api.Hash{1}); x != nil || err != api.ErrNil {
		t.Errorf("%v, %v", x, err)
	}
	x, err := New(witness.New(), api.Hash{1})
	if err != nil || x.Root() != (api.Hash{1}) {
		t.Errorf("%x, %v", x.Root(), err)
	}
}

// P7.2: words stand at their leaves, as leaves.
func TestWordAndSet(t *testing.T) {
	_, x := empty(t)
	leaves := make([]api.Hash, 1<<api.StateDepth)
	for n, c := range [][3]uint64{{3, 0, 7}, {0, 0, 1}, {63, 31, 1<<64 - 1}, {63, 30, 5}, {3, 0, 0}, {17, 20, 0x0102030405060708}} {
		if err := x.Set(c[0], c[1], c[2]); err != nil {
			t.Fatal(err)
		}
		wantWord(t, x, c[0], c[1], c[2])
		leaves[32*c[0]+c[1]] = leafOf(c[2])
		if want, _ := merkle.Root(api.StateDepth, leaves); x.Root() != want {
			t.Errorf("root %d: %x", n, x.Root())
		}
	}
	wantWord(t, x, 5, 5, 0)
}

// P7.2: accounts and slots that there are not; leaves that are no words; what is missing.
func TestWordErrors(t *testing.T) {
	s, x := empty(t)
	before := x.Root()
	for _, c := range [][2]uint64{{64, 0}, {0, 32}, {1<<64 - 1, 1<<64 - 1}, {1 << 59, 0}} {
		if v, err := x.Word(c[0], c[1]); v != 0 || err != api.ErrRange {
			t.Errorf("Word %v: %d, %v", c, v, err)
		}
		if err := x.Set(c[0], c[1], 1); err != api.ErrRange {
			t.Errorf("Set %v: %v", c, err)
		}
	}
	for _, odd := range []api.Hash{{0: 1}, {23: 1, 31: 4}} {
		root, _ := s.Write(api.StateDepth, before, 32*9+4, odd)
		y, _ := New(s, root)
		if v, err := y.Word(9, 4); v != 0 || err != api.ErrForm {
			t.Errorf("Word: %d, %v", v, err)
		}
		if err := y.Set(9, 4, 0); err != api.ErrForm || y.Root() != root {
			t.Errorf("Set: %v", err)
		}
		wantWord(t, y, 9, 5, 0)
	}
	low, _ := merkle.Zero(4)
	s.Drop(low)
	n := s.Len()
	_, err := x.Word(1, 1)
	wantFault(t, err, 7)
	wantFault(t, x.Set(1, 1, 4), 7)
	if x.Root() != before || s.Len() != n {
		t.Error("a Set that failed has changed something")
	}
}

// P7.3: codes of all lengths come back, with noughts behind them.
func TestCode(t *testing.T) {
	_, x := empty(t)
	for _, n := range []int{64, 0, 1, 7, 8, 9, 63, 16} {
		code := make([]byte, n, 80)
		for i := range code {
			code[i] = byte(200 - i)
		}
		if err := x.SetCode(6, code); err != nil {
			t.Fatal(err)
		}
		if got, err := x.Code(6); !bytes.Equal(got, code) || err != nil {
			t.Errorf("%d bytes: %v, %v", n, got, err)
		}
		wantWord(t, x, 6, 2, uint64(n))
		for i := range 8 {
			want := uint64(0)
			for j := range 8 {
				want <<= 8
				if 8*i+j < n {
					want |= uint64(code[8*i+j])
				}
			}
			wantWord(t, x, 6, uint64(16+i), want)
		}
	}
	if got, err := x.Code(7); len(got) != 0 || err != nil {
		t.Errorf("of an account without: %v, %v", got, err)
	}
}

// P7.3: bytes of a word behind the code's end are no part of it; a length above 64 has no form.
func TestCodeLength(t *testing.T) {
	s, x := empty(t)
	x.Set(1, 16, 0x0102030405060708)
	x.Set(1, 2, 3)
	if got, err := x.Code(1); !bytes.Equal(got, []byte{1, 2, 3}) || err != nil {
		t.Errorf("%v, %v", got, err)
	}
	x.Set(1, 2, 65)
	if got, err := x.Code(1); got != nil || err != api.ErrForm {
		t.Errorf("%v, %v", got, err)
	}
	x.Set(1, 2, 8)
	root, _ := s.Write(api.StateDepth, x.Root(), 32+17, api.Hash{1})
	y, _ := New(s, root)
	if got, err := y.Code(1); len(got) != 8 || err != nil {
		t.Errorf("a word that is not reached into: %v, %v", got, err)
	}
	y.Set(1, 2, 9)
	if got, err := y.Code(1); got != nil || err != api.ErrForm {
		t.Errorf("a word that is reached into: %v, %v", got, err)
	}
	if got, err := y.Code(64); got != nil || err != api.ErrRange {
		t.Errorf("%v, %v", got, err)
	}
}

// P7.3: a SetCode that fails changes nothing, neither state nor store.
func TestSetCodeErrors(t *testing.T) {
	s, x := empty(t)
	if err := x.SetCode(64, make([]byte, 65)); err != api.ErrFull {
		t.Error(err)
	}
	if err := x.SetCode(64, nil); err != api.ErrRange {
		t.Error(err)
	}
	root, _ := s.Write(api.StateDepth, x.Root(), 32+20, api.Hash{1})
	y, _ := New(s, root)
	n := s.Len()
	s.Asked()
	if err := y.SetCode(1, []byte{1}); err != api.ErrForm || y.Root() != root || s.Len() != n {
		t.Errorf("%v, %d", err, s.Len()-n)
	}
	if asked := s.Asked(); len(asked) == 0 || asked[0] != root {
		t.Errorf("asked %x", asked)
	}
	low, _ := merkle.Zero(3)
	s.Drop(low)
	n = s.Len()
	wantFault(t, x.SetCode(5, make([]byte, 20)), 8)
	if s.Len() != n {
		t.Error("preimages were added")
	}
}

// P7.3: a preimage that a word's Set brings back serves the next ones.
func TestSetCodeBringsBack(t *testing.T) {
	s, x := empty(t)
	x.Set(1, 2, 5)
	low, _ := merkle.Zero(1)
	s.Drop(low)
	if err := x.SetCode(1, nil); err != nil {
		t.Error(err)
	}
}

// P7.4: moves, and what they are refused for.
func TestMove(t *testing.T) {
	s, x := empty(t)
	const most = 1<<64 - 1
	x.Set(1, 0, 10)
	x.Set(2, 0, most-4)
	for _, c := range []struct {
		from, to, value uint64
		want            error
		one, two        uint64
	}{
		{1, 2, 11, api.ErrFunds, 10, most - 4}, {1, 2, 5, api.ErrRange, 10, most - 4}, {1, 1, 11, api.ErrFunds, 10, most - 4},
		{1, 1, 10, nil, 10, most - 4}, {2, 2, most - 4, nil, 10, most - 4}, {1, 2, 4, nil, 6, most}, {2, 1, most - 6, nil, most, 6},
		{1, 2, 0, nil, most, 6}, {64, 2, 1, api.ErrRange, most, 6}, {1, 64, 1, api.ErrRange, most, 6}, {3, 64, 1, api.ErrRange, most, 6},
	} {
		before := x.Root()
		err := x.Move(c.from, c.to, c.value)
		if err != c.want || err != nil && x.Root() != before {
			t.Errorf("Move %d, %d, %d: %v; want %v", c.from, c.to, c.value, err, c.want)
		}
		wantWord(t, x, 1, 0, c.one)
		wantWord(t, x, 2, 0, c.two)
	}
	root, _ := s.Write(api.StateDepth, x.Root(), 32*4, api.Hash{1})
	y, _ := New(s, root)
	n := s.Len()
	for _, c := range [][3]uint64{{4, 1, 0}, {1, 4, 0}, {3, 4, 1}} {
		if err := y.Move(c[0], c[1], c[2]); err != api.ErrForm || y.Root() != root || s.Len() != n {
			t.Errorf("Move %v: %v", c, err)
		}
	}
}

// P7.5: marks are gone back to, or kept, with all behind them.
func TestMarks(t *testing.T) {
	_, x := empty(t)
	var roots []api.Hash
	for i := range 4 {
		if n := x.Mark(); n != i {
			t.Errorf("mark %d", n)
		}
		roots = append(roots, x.Root())
		x.Set(1, 0, uint64(i+1))
	}
	last := x.Root()
	for _, mark := range []int{-1, 4, 1 << 62} {
		if x.Back(mark) != api.ErrRange || x.Keep(mark) != api.ErrRange || x.Root() != last {
			t.Errorf("mark %d", mark)
		}
	}
	if err := x.Keep(3); err != nil || x.Root() != last {
		t.Errorf("Keep: %v", err)
	}
	if x.Back(3) != api.ErrRange {
		t.Error("a mark that was kept is there still")
	}
	if err := x.Back(1); err != nil || x.Root() != roots[1] {
		t.Errorf("Back: %v", err)
	}
	if x.Back(1) != api.ErrRange || x.Keep(2) != api.ErrRange || x.Mark() != 1 {
		t.Error("marks behind it are there still")
	}
	if err := x.Back(0); err != nil || x.Root() != roots[0] {
		t.Errorf("Back: %v", err)
	}
	wantWord(t, x, 1, 0, 0)
}

// P7.1 to P7.5: a nil state.
func TestNil(t *testing.T) {
	var x *State
	_, word := x.Word(99, 0)
	_, code := x.Code(99)
	errs := []error{word, code, x.Set(99, 0, 0), x.SetCode(99, make([]byte, 99)), x.Move(99, 0, 0), x.Back(-1), x.Keep(-1), x.Attempt(nil)}
	for i, err := range errs {
		if err != api.ErrNil {
			t.Errorf("%d: %v", i, err)
		}
	}
	if x.Root() != (api.Hash{}) || x.Mark() != 0 {
		t.Error("nil is not zero")
	}
	bare := &State{}
	if _, err := bare.Word(0, 0); err != api.ErrNil {
		t.Errorf("without a store: %v", err)
	}
	if err := bare.SetCode(0, nil); err != api.ErrNil {
		t.Errorf("without a store: %v", err)
	}
}

// An attempt that fails leaves the store as it was, but for what it was asked for.
func TestAttempt(t *testing.T) {
	s, x := empty(t)
	before, n := x.Root(), s.Len()
	err := x.Attempt(func(y *State) error {
		y.Mark()
		y.Set(1, 0, 5)
		return api.ErrOp
	})
	if err != api.ErrOp || x.Root() != before || s.Len() != n || x.Mark() != 0 {
		t.Errorf("%v", err)
	}
	asked := s.Asked()
	if len(asked) == 0 || asked[0] != before {
		t.Errorf("asked %x", asked)
	}
	if err := x.Attempt(func(y *State) error { return y.Set(1, 0, 5) }); err != nil {
		t.Error(err)
	}
	wantWord(t, x, 1, 0, 5)
	if h := keccak.Pair(leafOf(5), api.Hash{}); s.Drop(h) != nil {
		t.Error("the leaf's pair is not there")
	}
}
