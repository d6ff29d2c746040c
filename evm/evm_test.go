package evm

import (
	"errors"
	"reflect"
	"testing"

	"moot/api"
	"moot/keccak"
	"moot/merkle"
	"moot/state"
	"moot/witness"
	"moot/word"
)

const most = 1<<64 - 1

func empty(t *testing.T) (*witness.Store, *state.State) {
	t.Helper()
	s := witness.New()
	root, _ := merkle.Zero(api.StateDepth)
	x, err := state.New(s, root)
	if err != nil {
		t.Fatal(err)
	}
	return s, x
}

// with: a state in which the accounts have these codes, and each 1000.
func with(t *testing.T, codes map[uint64][]byte) *state.State {
	t.Helper()
	_, x := empty(t)
	for a, code := range codes {
		if x.SetCode(a, code) != nil || x.Set(a, 0, 1000) != nil {
			t.Fatal("no such code")
		}
	}
	return x
}

// runCode: as account 6 with 90 gas.
func runCode(t *testing.T, code ...byte) Outcome {
	t.Helper()
	o, err := Run(with(t, map[uint64][]byte{6: code}), Frame{Self: 6, Caller: 4, Value: 77, Data: 88, Gas: 90})
	if err != nil {
		t.Fatalf("% d: %v", code, err)
	}
	return o
}

func join(parts ...[]byte) []byte {
	var all []byte
	for _, p := range parts {
		all = append(all, p...)
	}
	return all
}

func push8Of(v uint64) []byte {
	b := []byte{33}
	for i := 7; i >= 0; i-- {
		b = append(b, byte(v>>(8*i)))
	}
	return b
}

func wantDone(t *testing.T, answer, used uint64, code ...byte) {
	t.Helper()
	o := runCode(t, code...)
	if !o.Done || o.Answer != answer || o.Gas != 90-used || o.Why != nil || len(o.Messages) != 0 {
		t.Errorf("% d: %+v; want %d, %d used", code, o, answer, used)
	}
}

func wantWhy(t *testing.T, why error, code ...byte) {
	t.Helper()
	if o := runCode(t, code...); o.Why != why || o.Done || o.Gas != 0 || o.Answer != 0 || len(o.Messages) != 0 {
		t.Errorf("% d: %+v; want %v", code, o, why)
	}
}

// P8.1: the document's examples.
func TestExamples(t *testing.T) {
	wantDone(t, 0, 0)
	wantDone(t, 5, 4, 32, 2, 32, 3, 1, 54)
	wantDone(t, most-1, 4, 32, 5, 32, 3, 2, 54)
	wantWhy(t, api.ErrJump, 32, 0, 41)
	o := runCode(t, 32, 4, 41, 0, 43, 32, 7, 55)
	if o.Done || o.Why != api.ErrRevert || o.Answer != 7 || o.Gas != 85 {
		t.Errorf("%+v", o)
	}
	wantWhy(t, api.ErrStack, 1)
	wantWhy(t, api.ErrOp, 26)
	wantWhy(t, api.ErrOp, 35, 8)
	wantWhy(t, api.ErrRange, 32, 9, 51, 32, 1, 32, 8, 40)
	x := with(t, map[uint64][]byte{6: {32, 1}})
	if o, err := Run(x, Frame{Self: 6}); err != nil || o.Why != api.ErrGas {
		t.Errorf("%+v, %v", o, err)
	}
}

// P8.1: layer 1's operations: a is on top, then b, then c; one gas each.
func TestWordOperations(t *testing.T) {
	a, b, c := uint64(most-6), uint64(0x0102030405060708), uint64(13)
	for op := 1; op <= 25; op++ {
		want, _ := word.Apply(op, a, b, c)
		n, _ := word.Args(op)
		code := join(push8Of(c), push8Of(b), push8Of(a), []byte{byte(op), 54})
		wantDone(t, want, 5, code...)
		short := join([]byte{32, 1, 32, 1}[:2*(n-1)], []byte{byte(op)})
		wantWhy(t, api.ErrStack, short...)
	}
}

// P8.1: every byte that is none of the table's.
func TestNoOperations(t *testing.T) {
	for op := range 256 {
		known := op <= 25 || op >= 32 && op <= 55
		if o := runCode(t, byte(op)); (o.Why == api.ErrOp) == known && op != 36 {
			t.Errorf("%d: %+v", op, o)
		}
	}
	for n, want := range map[byte]error{0: api.ErrOp, 1: api.ErrStack, 7: api.ErrStack, 8: api.ErrOp, 255: api.ErrOp} {
		wantWhy(t, want, 36, n)
	}
	for n, want := range map[byte]error{0: api.ErrStack, 7: api.ErrStack, 8: api.ErrOp, 255: api.ErrOp} {
		wantWhy(t, want, 35, n)
	}
}

// P8.1: pushes, the last of them reaching behind the code's end; POP, DUP and SWAP.
func TestStack(t *testing.T) {
	wantDone(t, 0x0102030405060708, 2, 33, 1, 2, 3, 4, 5, 6, 7, 8, 54)
	o := runCode(t, 33, 1, 2)
	if !o.Done || o.Gas != 89 {
		t.Errorf("%+v", o)
	}
	wantDone(t, 1, 4, 32, 1, 32, 2, 34, 54)
	three := []byte{32, 1, 32, 2, 32, 3}
	wantDone(t, 3, 5, join(three, []byte{35, 0, 54})...)
	wantDone(t, 1, 5, join(three, []byte{35, 2, 54})...)
	wantWhy(t, api.ErrStack, join(three, []byte{35, 3, 54})...)
	wantDone(t, 1, 5, join(three, []byte{36, 2, 54})...)
	wantDone(t, 3, 7, join(three, []byte{36, 2, 34, 34, 54})...)
	wantDone(t, 2, 7, join(three, []byte{36, 1, 36, 1, 34, 54})...)
	wantWhy(t, api.ErrStack, join(three, []byte{36, 3})...)
	// A DUP as the last byte has a nought behind it; a SWAP may not have it.
	if o := runCode(t, 32, 1, 35); !o.Done || o.Gas != 88 {
		t.Errorf("%+v", o)
	}
	wantWhy(t, api.ErrOp, 32, 1, 36)
	var full []byte
	for i := range 8 {
		full = append(full, 32, byte(i))
	}
	wantDone(t, 7, 9, append(full, 54)...)
	for _, more := range [][]byte{{32, 1}, {33}, {35, 0}, {44}, {47}, {53}} {
		wantWhy(t, api.ErrStack, join(full, more)...)
	}
	wantDone(t, 0, 10, join(full, []byte{36, 7, 54})...)
	wantDone(t, 0, 11, join(full, []byte{34, 35, 6, 54})...)
}

// P8.1: memory and its bounds.
func TestMemory(t *testing.T) {
	wantDone(t, 0, 3, 32, 7, 37, 54)
	wantDone(t, 9, 6, 32, 9, 32, 7, 38, 32, 7, 37, 54)
	wantWhy(t, api.ErrRange, 32, 8, 37)
	wantWhy(t, api.ErrRange, 32, 1, 32, 8, 38)
	wantWhy(t, api.ErrRange, join(push8Of(most), []byte{37})...)
}

// P8.1: storage costs more, stays in the state, and goes back with a frame that fails.
func TestStorage(t *testing.T) {
	wantDone(t, 0, 6, 32, 7, 39, 54)
	wantWhy(t, api.ErrRange, 32, 8, 39)
	code := []byte{32, 9, 32, 7, 40, 32, 7, 39, 54}
	wantDone(t, 9, 16, code...)
	x := with(t, map[uint64][]byte{6: code, 7: {32, 9, 32, 0, 40, 32, 5, 55}, 8: {32, 9, 32, 0, 40, 1}})
	before := x.Root()
	for _, self := range []uint64{7, 8} {
		if o, err := Run(x, Frame{Self: self, Gas: 90}); err != nil || o.Done || x.Root() != before {
			t.Errorf("%+v, %v", o, err)
		}
	}
	if o, err := Run(x, Frame{Self: 6, Gas: 90}); err != nil || !o.Done {
		t.Errorf("%+v, %v", o, err)
	}
	if v, _ := x.Word(6, 31); v != 9 {
		t.Errorf("storage %d", v)
	}
	if x.Mark() != 0 {
		t.Error("marks were left")
	}
}

// P8.1: gas is asked behind the stack, and ahead of places.
func TestGas(t *testing.T) {
	for gas, want := range map[uint64]error{9: api.ErrGas, 10: nil} {
		x := with(t, map[uint64][]byte{6: {32, 9, 32, 7, 40}})
		o, err := Run(x, Frame{Self: 6, Gas: gas})
		if o.Why != want || o.Gas != 0 || err != nil {
			t.Errorf("%d gas: %+v, %v", gas, o, err)
		}
	}
	for _, c := range []struct {
		code []byte
		gas  uint64
		want error
	}{{[]byte{32, 9, 32, 8, 40}, 9, api.ErrGas}, {[]byte{1}, 0, api.ErrStack}, {[]byte{99}, 0, api.ErrOp}, {[]byte{35, 9}, 0, api.ErrOp}, {[]byte{32, 0, 41}, 1, api.ErrGas}} {
		if o, _ := Run(with(t, map[uint64][]byte{6: c.code}), Frame{Self: 6, Gas: c.gas}); o.Why != c.want {
			t.Errorf("% d: %+v", c.code, o)
		}
	}
	// Round and round till the gas is gone.
	wantWhy(t, api.ErrGas, 43, 32, 0, 41)
}

// P8.1, P8.2: jumps go to operations only.
func TestJumps(t *testing.T) {
	wantDone(t, 7, 5, 32, 4, 41, 26, 43, 32, 7, 54)
	wantWhy(t, api.ErrJump, 32, 1, 41)
	wantWhy(t, api.ErrJump, 32, 3, 41, 0)
	wantWhy(t, api.ErrJump, 32, 4, 41, 32, 43)
	wantWhy(t, api.ErrJump, 32, 200, 41)
	wantWhy(t, api.ErrJump, join(push8Of(1<<32+10), []byte{41, 43})...)
	wantWhy(t, api.ErrJump, 32, 1, 32, 5, 42, 0)
	wantDone(t, 7, 6, 32, 1, 32, 6, 42, 26, 43, 32, 7, 54)
	wantDone(t, 7, 5, 32, 0, 32, 9, 42, 32, 7, 54)
	for _, c := range []struct {
		code []byte
		want []int
	}{{nil, nil}, {[]byte{32, 43, 43}, []int{2}}, {[]byte{43, 43}, []int{0, 1}}, {[]byte{33, 43, 43, 43, 43, 43, 43, 43, 43, 43}, []int{9}},
		{[]byte{35, 43, 36, 43, 99, 43}, []int{5}}, {[]byte{34, 43, 33, 43}, []int{1}}} {
		got := Dests(c.code)
		if len(got) != len(c.want) || len(got) > 0 && !reflect.DeepEqual(got, c.want) {
			t.Errorf("Dests % d: %v", c.code, got)
		}
	}
	long := make([]byte, 200)
	long[150] = 43
	if got := Dests(long); len(got) != 1 || got[0] != 150 {
		t.Errorf("%v", got)
	}
}

// P8.1: what a frame knows of itself and of others.
func TestTold(t *testing.T) {
	wantDone(t, 4, 2, 44, 54)
	wantDone(t, 77, 2, 45, 54)
	wantDone(t, 88, 2, 46, 54)
	wantDone(t, 89, 2, 47, 54)
	wantDone(t, 6, 2, 48, 54)
	wantDone(t, 1000, 6, 32, 6, 49, 54)
	wantDone(t, 0, 6, 32, 63, 49, 54)
	wantWhy(t, api.ErrRange, 32, 64, 49)
	wantDone(t, 0, 2, 53, 54)
	pair := keccak.Pair(api.Hash{31: 3}, api.Hash{31: 2})
	want := uint64(0)
	for _, b := range pair[:8] {
		want = want<<8 | uint64(b)
	}
	wantDone(t, want, 7, 32, 2, 32, 3, 50, 54)
}

// P8.1: messages stand in order, and are gone with a frame that fails.
func TestMessages(t *testing.T) {
	o := runCode(t, 32, 9, 51, 32, 8, 51)
	if want := []api.Message{{From: 6, Word: 9}, {From: 6, Word: 8}}; !o.Done || !reflect.DeepEqual(o.Messages, want) || o.Gas != 90-18 {
		t.Errorf("%+v", o)
	}
	for _, end := range [][]byte{{1}, {32, 1, 55}} {
		if o := runCode(t, join([]byte{32, 9, 51}, end)...); len(o.Messages) != 0 || o.Done {
			t.Errorf("%+v", o)
		}
	}
}

// callOf: the code of a call, whose 0 or 1 is left on the stack.
func callOf(to, value, data, gas byte) []byte {
	return []byte{32, gas, 32, data, 32, value, 32, to, 52}
}

type callCase struct {
	name            string
	self, callee    []byte
	answer, used    uint64
	balance, others uint64
	messages        []api.Message
}

// P8.1: calls that are done, reverted, failed; what is left of what was given.
func TestCalls(t *testing.T) {
	ok, answered := []byte{54}, []byte{53, 54}
	for _, c := range []callCase{
		{"done", join(callOf(7, 30, 5, 50), ok), []byte{46, 54}, 1, 15, 970, 1030, nil},
		{"its data", join(callOf(7, 30, 5, 50), answered), []byte{46, 54}, 5, 16, 970, 1030, nil},
		{"its caller", join(callOf(7, 0, 5, 50), answered), []byte{44, 54}, 6, 16, 1000, 1000, nil},
		{"its value", join(callOf(7, 9, 5, 50), answered), []byte{45, 54}, 9, 16, 991, 1009, nil},
		{"its gas", join(callOf(7, 0, 5, 50), answered), []byte{47, 54}, 49, 16, 1000, 1000, nil},
		{"the lesser one", join(callOf(7, 0, 5, 200), answered), []byte{47, 54}, 76, 16, 1000, 1000, nil},
		{"no code", join(callOf(9, 30, 5, 50), ok), nil, 1, 13, 970, 1000, nil},
		{"reverted", join(callOf(7, 30, 5, 50), answered), []byte{32, 9, 51, 32, 3, 55}, 3, 25, 1000, 1000, nil},
		{"reverted: 0", join(callOf(7, 30, 5, 50), ok), []byte{32, 3, 55}, 0, 15, 1000, 1000, nil},
		{"failed", join(callOf(7, 30, 5, 50), answered), []byte{32, 3, 26}, 0, 64, 1000, 1000, nil},
		{"messages", join([]byte{32, 1, 51}, callOf(7, 0, 5, 20), []byte{32, 3, 51, 53, 54}), []byte{32, 2, 51}, 0, 41, 1000, 1000, []api.Message{{From: 6, Word: 1}, {From: 7, Word: 2}, {From: 6, Word: 3}}},
		{"too little", join(callOf(7, 200, 5, 50), []byte{32, 250, 1, 54}), []byte{32, 9, 54}, 251, 17, 800, 1200, nil},
		{"to itself", join(callOf(6, 30, 5, 0), ok), nil, 0, 13, 1000, 1000, nil},
		{"all it has, to itself", []byte{46, 32, 13, 42, 32, 20, 32, 1, 48, 49, 48, 52, 54, 43}, nil, 1, 24, 1000, 1000, nil},
	} {
		x := with(t, map[uint64][]byte{6: c.self, 7: c.callee})
		o, err := Run(x, Frame{Self: 6, Caller: 4, Gas: 90})
		one, _ := x.Word(6, 0)
		two, _ := x.Word(7, 0)
		if err != nil || !o.Done || o.Answer != c.answer || o.Gas != 90-c.used || one != c.balance || two != c.others || !reflect.DeepEqual(o.Messages, c.messages) {
			t.Errorf("%s: %+v, %v, %d, %d", c.name, o, err, one, two)
		}
	}
}

// P8.1: calls that are not even begun put 0, and the answer is 0.
func TestRefusedCalls(t *testing.T) {
	twice := func(to, value byte) []byte {
		return join(callOf(7, 0, 5, 50), callOf(to, value, 5, 50), []byte{53, 1, 32, 100, 1, 54})
	}
	for name, c := range map[string]struct {
		code  []byte
		gas   uint64
		depth int
		other uint64
		want  uint64
	}{
		"below value": {twice(7, 201), 96, 0, 0, 100},
		"overflow":    {twice(8, 200), 96, 0, most - 199, 100},
		"full":        {twice(8, 200), 96, 0, most - 200, 101},
		"deepest":     {join(callOf(7, 0, 5, 50), []byte{32, 9, 1, 54}), 90, 3, 0, 9},
		"third":       {join(callOf(7, 0, 5, 50), []byte{32, 9, 1, 54}), 90, 2, 0, 10},
	} {
		x := with(t, map[uint64][]byte{6: c.code, 7: {32, 1, 54}})
		x.Set(6, 0, 200)
		x.Set(8, 0, c.other)
		o, err := Run(x, Frame{Self: 6, Gas: c.gas, Depth: c.depth})
		if err != nil || !o.Done || o.Answer != c.want {
			t.Errorf("%s: %+v, %v", name, o, err)
		}
	}
	wantWhy(t, api.ErrRange, callOf(64, 0, 0, 0)...)
	wantWhy(t, api.ErrStack, 32, 0, 32, 0, 32, 0, 52)
	if o, err := Run(with(t, map[uint64][]byte{6: callOf(64, 0, 0, 0)}), Frame{Self: 6, Gas: 90, Depth: 3}); err != nil || o.Why != api.ErrRange {
		t.Errorf("%+v, %v", o, err)
	}
}

// P8.1: frames within one another, four at the most; a change of an inner one goes with the outer one that fails.
func TestNestedCalls(t *testing.T) {
	x := with(t, map[uint64][]byte{
		6: join(callOf(7, 1, 0, 80), []byte{32, 1, 32, 0, 40, 1}),
		7: join(callOf(8, 2, 0, 60), []byte{54}),
		8: {32, 5, 32, 0, 40, 32, 1, 54},
	})
	before := x.Root()
	if o, err := Run(x, Frame{Self: 6, Gas: 96}); err != nil || o.Why != api.ErrStack || x.Root() != before {
		t.Errorf("%+v, %v", o, err)
	}
	if o, err := Run(x, Frame{Self: 7, Gas: 96}); err != nil || !o.Done || o.Answer != 1 {
		t.Errorf("%+v, %v", o, err)
	}
	if v, _ := x.Word(8, 24); v != 5 {
		t.Errorf("storage %d", v)
	}
	// Account 6 calls itself with all it has: the innermost frame is refused.
	x = with(t, map[uint64][]byte{6: join(callOf(6, 0, 0, 255), []byte{53, 1, 32, 1, 1, 54})})
	if o, err := Run(x, Frame{Self: 6, Gas: 96}); err != nil || !o.Done || o.Answer != 1+2+2+2 {
		t.Errorf("%+v, %v", o, err)
	}
}

// P8.1: what may not be run.
func TestRunErrors(t *testing.T) {
	_, x := empty(t)
	if o, err := Run(nil, Frame{Self: 64}); !reflect.DeepEqual(o, Outcome{}) || err != api.ErrNil {
		t.Errorf("%+v, %v", o, err)
	}
	for _, f := range []Frame{{Self: 64}, {Caller: 64}, {Gas: 97}, {Depth: -1}, {Depth: 4}, {Self: most}, {Gas: most}} {
		if o, err := Run(x, f); !reflect.DeepEqual(o, Outcome{}) || err != api.ErrRange {
			t.Errorf("%+v: %+v, %v", f, o, err)
		}
	}
	if o, err := Run(x, Frame{Self: 63, Caller: 63, Gas: 96, Depth: 3}); !o.Done || o.Gas != 96 || err != nil {
		t.Errorf("%+v, %v", o, err)
	}
}

// P8.1: a word that can't be read ends it all, and state and store are as they were.
func TestUnreadable(t *testing.T) {
	s, x := empty(t)
	store := []byte{32, 9, 32, 1, 40}
	x.SetCode(6, join(store, []byte{32, 0, 39}))
	x.SetCode(7, join(store, []byte{32, 1, 32, 0, 40}))
	x.SetCode(8, join(store, callOf(5, 0, 0, 50)))
	x.SetCode(10, join(store, callOf(6, 0, 0, 50)))
	x.SetCode(11, join(store, []byte{32, 5, 49}))
	x.SetCode(12, join(store, callOf(4, 0, 0, 50)))
	x.Set(3, 2, 65)
	root := x.Root()
	for _, place := range []int{32*6 + 24, 32*7 + 24, 32 * 5, 32*4 + 2} {
		root, _ = s.Write(api.StateDepth, root, place, api.Hash{1})
	}
	for _, self := range []uint64{3, 4, 5, 6, 7, 8, 10, 11, 12} {
		y, _ := state.New(s, root)
		n := s.Len()
		o, err := Run(y, Frame{Self: self, Gas: 96})
		if self == 5 {
			if !o.Done || err != nil {
				t.Errorf("a balance that nobody asks: %+v, %v", o, err)
			}
			continue
		}
		if !reflect.DeepEqual(o, Outcome{}) || err != api.ErrForm || y.Root() != root || s.Len() != n || y.Mark() != 0 {
			t.Errorf("%d: %+v, %v", self, o, err)
		}
	}
	y, _ := state.New(s, root)
	s.Drop(root)
	_, err := Run(y, Frame{Self: 6, Gas: 96})
	var f *api.Fault
	if !errors.As(err, &f) || f.At != 0 || !errors.Is(err, api.ErrMissing) {
		t.Errorf("%v", err)
	}
}

// P8.1: balances that a call needn't know are not read.
func TestCallReadsNoMore(t *testing.T) {
	s, x := empty(t)
	x.SetCode(6, join(callOf(5, 3, 0, 50), []byte{54}))
	root, _ := s.Write(api.StateDepth, x.Root(), 32*5, api.Hash{1})
	y, _ := state.New(s, root)
	if o, err := Run(y, Frame{Self: 6, Gas: 96}); err != nil || !o.Done || o.Answer != 0 {
		t.Errorf("below value: %+v, %v", o, err)
	}
	y.Set(6, 0, 3)
	if o, err := Run(y, Frame{Self: 6, Gas: 96, Depth: 3}); err != nil || !o.Done || o.Answer != 0 {
		t.Errorf("deepest: %+v, %v", o, err)
	}
	if _, err := Run(y, Frame{Self: 6, Gas: 96}); err != api.ErrForm {
		t.Errorf("%v", err)
	}
}
