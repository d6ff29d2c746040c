package stf

import (
	"errors"
	"math/rand"
	"reflect"
	"testing"

	"moot/api"
	"moot/keccak"
	"moot/merkle"
	"moot/state"
	"moot/tx"
	"moot/witness"
)

const most = 1<<64 - 1

func empty(t *testing.T) (*witness.Store, *state.State) {
	t.Helper()
	s := witness.New()
	root, _ := merkle.Zero(api.StateDepth)
	x, err := state.New(s, root)
	if err != nil {
		t.Fatal(err)
	}
	return s, x
}

func balances(t *testing.T, s *witness.Store, root api.Hash) (list [64]uint64, sum uint64) {
	t.Helper()
	x, _ := state.New(s, root)
	for a := range uint64(64) {
		v, err := x.Word(a, 0)
		if err != nil {
			t.Fatal(err)
		}
		list[a] = v
		sum += v
	}
	return list, sum
}

func apply(t *testing.T, s *witness.Store, root api.Hash, list ...api.Tx) Result {
	t.Helper()
	r, err := Apply(s, root, api.Hash{}, list)
	if err != nil || len(r.Receipts) != len(list) {
		t.Fatalf("%+v, %v", r, err)
	}
	return r
}

// P9.1: the document's examples.
func TestExamples(t *testing.T) {
	s, x := empty(t)
	x.Set(1, 0, 100)
	one := api.Tx{From: 1, To: 2, Value: 30, Gas: 10}
	r := apply(t, s, x.Root(), one)
	b, _ := balances(t, s, r.Root)
	if r.Receipts[0] != (api.Receipt{Status: 1, Used: 5}) || b[0] != 5 || b[1] != 65 || b[2] != 30 {
		t.Errorf("%+v, %v", r, b[:3])
	}
	if r.Out != (api.Hash{}) || r.Output != keccak.Pair(r.Root, r.Out) || len(r.Messages) != 0 {
		t.Errorf("%+v", r)
	}
	for _, again := range []api.Tx{one, {From: 1, To: 2, Nonce: 1, Value: 60, Gas: 10}} {
		if next := apply(t, s, r.Root, again); next.Receipts[0] != (api.Receipt{}) || next.Root != r.Root {
			t.Errorf("%+v", next)
		}
	}
}

// P9.1: the first example of the whole.
func TestMessage(t *testing.T) {
	s, x := empty(t)
	x.Set(1, 0, 500)
	x.SetCode(2, []byte{46, 51})
	out := api.Hash{7}
	r, err := Apply(s, x.Root(), out, []api.Tx{{From: 1, To: 2, Value: 3, Gas: 50, Data: 7}})
	leaf := api.Hash{23: 2, 31: 7}
	if err != nil || r.Receipts[0] != (api.Receipt{Status: 1, Used: 14}) || !reflect.DeepEqual(r.Messages, []api.Message{{From: 2, Word: 7}}) {
		t.Errorf("%+v, %v", r, err)
	}
	if r.Out != keccak.Pair(out, leaf) || r.Output != keccak.Pair(r.Root, r.Out) {
		t.Errorf("%+v", r)
	}
}

type runCase struct {
	name    string
	x       api.Tx
	receipt api.Receipt
	changed map[uint64]uint64 // balances behind it
	nonce   uint64
}

// P9.1: each way a transaction may go. Account 1 has 100, account 3 all but 10 of a word.
func TestTransactions(t *testing.T) {
	codes := map[uint64][]byte{
		10: {32, 7, 54}, 11: {32, 7, 55}, 12: {32, 7, 26}, 13: {32, 9, 32, 0, 40, 32, 1, 55}, 14: {32, 1, 51, 26}, 15: {43, 32, 0, 41}, 16: {44, 54}, 17: {45, 54}, 18: {47, 54},
	}
	skipped := api.Receipt{}
	for _, c := range []runCase{
		{"plain", api.Tx{From: 1, To: 2, Value: 30, Gas: 10}, api.Receipt{Status: 1, Used: 5}, map[uint64]uint64{0: 5, 1: 65, 2: 30}, 1},
		{"all there is", api.Tx{From: 1, To: 2, Value: 90, Gas: 10}, api.Receipt{Status: 1, Used: 5}, map[uint64]uint64{0: 5, 1: 5, 2: 90}, 1},
		{"too much", api.Tx{From: 1, To: 2, Value: 91, Gas: 10}, skipped, nil, 0},
		{"more than a word", api.Tx{From: 1, To: 2, Value: most, Gas: 10}, skipped, nil, 0},
		{"another nonce", api.Tx{From: 1, To: 2, Nonce: 1, Gas: 10}, skipped, nil, 0},
		{"little gas", api.Tx{From: 1, To: 2, Gas: 4}, skipped, nil, 0},
		{"just enough gas", api.Tx{From: 1, To: 2, Gas: 5}, api.Receipt{Status: 1, Used: 5}, map[uint64]uint64{0: 5, 1: 95}, 1},
		{"to itself", api.Tx{From: 1, To: 1, Value: 80, Gas: 20}, api.Receipt{Status: 1, Used: 5}, map[uint64]uint64{0: 5, 1: 95}, 1},
		{"to the collector", api.Tx{From: 1, To: 0, Value: 80, Gas: 20}, api.Receipt{Status: 1, Used: 5}, map[uint64]uint64{0: 85, 1: 15}, 1},
		{"overflow", api.Tx{From: 1, To: 3, Value: 10, Gas: 20}, api.Receipt{Status: 2, Used: 20}, map[uint64]uint64{0: 20, 1: 80}, 1},
		{"no overflow", api.Tx{From: 1, To: 3, Value: 9, Gas: 20}, api.Receipt{Status: 1, Used: 5}, map[uint64]uint64{0: 5, 1: 86, 3: most}, 1},
		{"answer", api.Tx{From: 1, To: 10, Value: 3, Gas: 20}, api.Receipt{Status: 1, Used: 7, Answer: 7}, map[uint64]uint64{0: 7, 1: 90, 10: 3}, 1},
		{"revert", api.Tx{From: 1, To: 11, Value: 3, Gas: 20}, api.Receipt{Status: 2, Used: 7, Answer: 7}, map[uint64]uint64{0: 7, 1: 93}, 1},
		{"failure", api.Tx{From: 1, To: 12, Value: 3, Gas: 20}, api.Receipt{Status: 2, Used: 20}, map[uint64]uint64{0: 20, 1: 80}, 1},
		{"storage goes back", api.Tx{From: 1, To: 13, Value: 3, Gas: 40}, api.Receipt{Status: 2, Used: 17, Answer: 1}, map[uint64]uint64{0: 17, 1: 83}, 1},
		{"messages are gone", api.Tx{From: 1, To: 14, Gas: 40}, api.Receipt{Status: 2, Used: 40}, map[uint64]uint64{0: 40, 1: 60}, 1},
		{"round and round", api.Tx{From: 1, To: 15, Gas: 96}, api.Receipt{Status: 2, Used: 96}, map[uint64]uint64{0: 96, 1: 4}, 1},
		{"its caller", api.Tx{From: 1, To: 16, Gas: 40}, api.Receipt{Status: 1, Used: 7, Answer: 1}, map[uint64]uint64{0: 7, 1: 93}, 1},
		{"its value", api.Tx{From: 1, To: 17, Value: 6, Gas: 40}, api.Receipt{Status: 1, Used: 7, Answer: 6}, map[uint64]uint64{0: 7, 1: 87, 17: 6}, 1},
		{"its gas", api.Tx{From: 1, To: 18, Gas: 40}, api.Receipt{Status: 1, Used: 7, Answer: 34}, map[uint64]uint64{0: 7, 1: 93}, 1},
	} {
		s, x := empty(t)
		x.Set(1, 0, 100)
		x.Set(3, 0, most-9)
		for a, code := range codes {
			x.SetCode(a, code)
		}
		before, sum := balances(t, s, x.Root())
		r := apply(t, s, x.Root(), c.x)
		after, sumAfter := balances(t, s, r.Root)
		for a, v := range c.changed {
			before[a] = v
		}
		y, _ := state.New(s, r.Root)
		nonce, _ := y.Word(1, 1)
		stored, _ := y.Word(13, 24)
		if r.Receipts[0] != c.receipt || after != before || sum != sumAfter || nonce != c.nonce || stored != 0 || len(r.Messages) != 0 {
			t.Errorf("%s: %+v, %v, nonce %d", c.name, r, after[:4], nonce)
		}
		if (c.changed == nil) != (r.Root == x.Root()) {
			t.Errorf("%s: root", c.name)
		}
	}
}

// P9.1: balances and nonces are modulo 2^64.
func TestWrapping(t *testing.T) {
	s, x := empty(t)
	x.Set(1, 0, 100)
	x.Set(1, 1, most)
	x.Set(0, 0, most)
	r := apply(t, s, x.Root(), api.Tx{From: 1, To: 2, Nonce: most, Gas: 10})
	y, _ := state.New(s, r.Root)
	nonce, _ := y.Word(1, 1)
	b, _ := balances(t, s, r.Root)
	if r.Receipts[0].Status != 1 || nonce != 0 || b[0] != 4 {
		t.Errorf("%+v, %d, %v", r, nonce, b[:3])
	}
}

// P9.1: what is refused, in order; with an error neither state nor store is changed.
func TestApplyErrors(t *testing.T) {
	s, x := empty(t)
	x.Set(1, 0, 100)
	n := s.Len()
	wrong := []api.Tx{{From: 64}, {To: 64}, {Gas: 97}}
	for _, w := range wrong {
		if r, err := Apply(s, x.Root(), api.Hash{}, []api.Tx{{From: 1, Gas: 10}, w}); !reflect.DeepEqual(r, Result{}) || err != api.ErrShape {
			t.Errorf("%+v, %v", r, err)
		}
	}
	if r, err := Apply(s, x.Root(), api.Hash{}, make([]api.Tx, 9)); !reflect.DeepEqual(r, Result{}) || err != api.ErrFull {
		t.Errorf("%+v, %v", r, err)
	}
	if r, err := Apply(s, x.Root(), api.Hash{}, append(make([]api.Tx, 8), wrong[0])); !reflect.DeepEqual(r, Result{}) || err != api.ErrFull {
		t.Errorf("%+v, %v", r, err)
	}
	if r, err := Apply(nil, x.Root(), api.Hash{}, make([]api.Tx, 9)); !reflect.DeepEqual(r, Result{}) || err != api.ErrNil {
		t.Errorf("%+v, %v", r, err)
	}
	if s.Len() != n {
		t.Error("preimages were added")
	}
	if r, err := Apply(s, x.Root(), api.Hash{4}, nil); err != nil || r.Root != x.Root() || r.Out != (api.Hash{4}) || r.Output != keccak.Pair(r.Root, r.Out) || len(r.Receipts) != 0 {
		t.Errorf("none: %+v, %v", r, err)
	}
}

// P9.1: words that can't be read, each one where it is first needed; the first transaction has been done by then.
func TestUnreadable(t *testing.T) {
	s, x := empty(t)
	x.Set(1, 0, 100)
	x.Set(2, 0, 100)
	x.SetCode(3, []byte{32, 0, 39})
	good := api.Tx{From: 1, To: 5, Value: 1, Gas: 10}
	bad := api.Tx{From: 2, To: 3, Value: 1, Gas: 20}
	for _, place := range []int{32*2 + 1, 32 * 2, 32 * 3, 32*3 + 2, 32*3 + 16, 32*3 + 24} {
		root, _ := s.Write(api.StateDepth, x.Root(), place, api.Hash{1})
		n := s.Len()
		s.Asked()
		r, err := Apply(s, root, api.Hash{}, []api.Tx{good, bad})
		if !reflect.DeepEqual(r, Result{}) || err != api.ErrForm || s.Len() != n || len(s.Asked()) == 0 {
			t.Errorf("%d: %+v, %v", place, r, err)
		}
	}
	root, _ := s.Write(api.StateDepth, x.Root(), 0, api.Hash{1})
	if _, err := Apply(s, root, api.Hash{}, []api.Tx{good}); err != api.ErrForm {
		t.Errorf("account 0: %v", err)
	}
	if r, err := Apply(s, root, api.Hash{}, []api.Tx{{From: 1, Nonce: 5}}); err != nil || r.Root != root {
		t.Errorf("nobody asks for account 0: %v", err)
	}
	// What skips it ahead spares the balance.
	root, _ = s.Write(api.StateDepth, x.Root(), 32*2, api.Hash{1})
	for _, y := range []api.Tx{{From: 2, Nonce: 1, Gas: 10}, {From: 2, Gas: 4}} {
		if r, err := Apply(s, root, api.Hash{}, []api.Tx{y}); err != nil || r.Receipts[0].Status != 0 {
			t.Errorf("%+v, %v", r, err)
		}
	}
	// A value that can't be moved spares the code.
	x.Set(3, 0, most)
	root, _ = s.Write(api.StateDepth, x.Root(), 32*3+2, api.Hash{1})
	if r, err := Apply(s, root, api.Hash{}, []api.Tx{bad}); err != nil || r.Receipts[0].Status != 2 {
		t.Errorf("%+v, %v", r, err)
	}
	s.Drop(x.Root())
	var f *api.Fault
	if _, err := Apply(s, x.Root(), api.Hash{}, []api.Tx{good}); !errors.As(err, &f) || f.At != 0 || !errors.Is(err, api.ErrMissing) {
		t.Errorf("%v", err)
	}
	if _, err := Apply(s, x.Root(), api.Hash{}, nil); err != nil {
		t.Errorf("none: %v", err)
	}
}

// P9.2: batches, messages, chains, outputs.
func TestParts(t *testing.T) {
	one := api.Tx{From: 1, To: 2, Value: 300, Gas: 9}
	b, _ := tx.Encode(one)
	batch, _ := tx.Batch([][]byte{b, {1}, b})
	if got := Txs(batch); len(got) != 2 || got[0] != one || got[1] != one {
		t.Errorf("%v", got)
	}
	for _, b := range [][]byte{nil, {1}, {192}, {194, 1}} {
		if got := Txs(b); len(got) != 0 {
			t.Errorf("%v", got)
		}
	}
	m, n := api.Message{From: 0x0102, Word: 0x0304}, api.Message{Word: most}
	leaf := api.Hash{22: 1, 23: 2, 30: 3, 31: 4}
	if Leaf(m) != leaf {
		t.Errorf("%x", Leaf(m))
	}
	out := api.Hash{9}
	if Chain(out, nil) != out || Chain(out, []api.Message{m, n}) != keccak.Pair(keccak.Pair(out, leaf), Leaf(n)) {
		t.Error("chain")
	}
	if Output(leaf, out) != keccak.Pair(leaf, out) {
		t.Error("output")
	}
}

// P9.1: the sum of all balances stays; a list is its beginning, and then its rest.
func TestWhatFollows(t *testing.T) {
	r := rand.New(rand.NewSource(9))
	s, x := empty(t)
	for a := range uint64(6) {
		x.Set(a, 0, uint64(r.Intn(400)))
	}
	x.SetCode(3, []byte{46, 51, 32, 9, 32, 0, 32, 5, 32, 4, 52, 54})
	x.SetCode(4, []byte{45, 51, 44, 32, 0, 40, 46, 32, 9, 42, 43})
	root, out := x.Root(), api.Hash{}
	_, sum := balances(t, s, root)
	nonces := map[uint64]uint64{}
	done := 0
	for range 40 {
		var list []api.Tx
		for range r.Intn(9) {
			from := uint64(r.Intn(6))
			y := api.Tx{From: from, To: uint64(r.Intn(6)), Nonce: nonces[from], Value: uint64(r.Intn(60)), Gas: uint64(r.Intn(97)), Data: uint64(r.Intn(3))}
			list = append(list, y)
			r1, err := Apply(s, root, out, list)
			if err != nil {
				t.Fatal(err)
			}
			if r1.Receipts[len(list)-1].Status != 0 {
				nonces[from]++
				done++
			}
		}
		whole, err := Apply(s, root, out, list)
		if err != nil {
			t.Fatal(err)
		}
		cut := r.Intn(len(list) + 1)
		first, _ := Apply(s, root, out, list[:cut])
		rest, _ := Apply(s, first.Root, first.Out, list[cut:])
		if rest.Output != whole.Output || len(first.Messages)+len(rest.Messages) != len(whole.Messages) {
			t.Fatal("two parts make another output")
		}
		if _, after := balances(t, s, whole.Root); after != sum {
			t.Fatalf("sum %d; want %d", after, sum)
		}
		root, out = whole.Root, whole.Out
	}
	if done < 20 {
		t.Errorf("only %d were run", done)
	}
}
