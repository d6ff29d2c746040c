package rollup

import (
	"errors"
	"reflect"
	"testing"

	"moot/api"
	"moot/client"
	"moot/clock"
	"moot/commit"
	"moot/game"
	"moot/honest"
	"moot/ledger"
	"moot/merkle"
	"moot/state"
	"moot/stf"
	"moot/tx"
	"moot/vm"
	"moot/witness"
)

var limit = clock.Rules{Limit: 1000}

// world is a rollup, and what the players know.
type world struct {
	s     *witness.Store
	l     *ledger.Ledger
	r     *Rollup
	first Output
	inbox [][]byte
}

func begin(t *testing.T) *world {
	t.Helper()
	w := &world{s: witness.New(), l: ledger.New()}
	for p := range 8 {
		w.l.PayIn(p, 1000)
	}
	root, _ := merkle.Zero(api.StateDepth)
	x, err := state.New(w.s, root)
	if err != nil {
		t.Fatal(err)
	}
	x.Set(1, 0, 500)
	x.SetCode(2, []byte{46, 51})
	w.first = Output{Root: x.Root()}
	w.r, err = New(w.l, limit, w.first)
	if err != nil {
		t.Fatal(err)
	}
	return w
}

// batch: one transaction of account 1 to account 2 for each number.
func (w *world) batch(t *testing.T, nonce uint64, data ...uint64) {
	t.Helper()
	var list [][]byte
	for i, d := range data {
		b, err := tx.Encode(api.Tx{From: 1, To: 2, Nonce: nonce + uint64(i), Value: 3, Gas: 40, Data: d})
		if err != nil {
			t.Fatal(err)
		}
		list = append(list, b)
	}
	b, err := tx.Batch(list)
	if err != nil {
		t.Fatal(err)
	}
	n, err := w.r.Batch(b)
	if n != len(w.inbox) || err != nil {
		t.Fatalf("Batch: %d, %v", n, err)
	}
	w.inbox = append(w.inbox, append([]byte(nil), b...))
	clear(b)
}

// truth: the next output, its messages, and the machine that comes to it.
func (w *world) truth(t *testing.T) (Output, []api.Message, *vm.Machine) {
	t.Helper()
	final := w.r.Final()
	n := len(final) - 1
	list := stf.Txs(w.inbox[n])
	if _, err := client.Lend(w.s, list); err != nil {
		t.Fatal(err)
	}
	res, err := stf.Apply(w.s, final[n].Root, final[n].Out, list)
	if err != nil {
		t.Fatal(err)
	}
	m, err := w.r.Start(n)
	if err != nil {
		t.Fatal(err)
	}
	if _, err := m.Run(w.s.Copy(), api.ClientSteps); err != nil {
		t.Fatal(err)
	}
	return Output{res.Root, res.Out}, res.Messages, m
}

func of(t *testing.T, m *vm.Machine) api.Hash {
	t.Helper()
	h, err := commit.Of(m)
	if err != nil {
		t.Fatal(err)
	}
	return h
}

func shown(t *testing.T, m *vm.Machine) Shown {
	t.Helper()
	s, err := Show(m)
	if err != nil {
		t.Fatal(err)
	}
	return s
}

func resolveAll(t *testing.T, g *game.Game, now uint64) {
	t.Helper()
	for i := g.Len() - 1; i >= 0; i-- {
		if err := g.Resolve(i, now); err != nil {
			t.Fatal(err)
		}
	}
}

// become: the truth is proposed, kept, and final.
func (w *world) become(t *testing.T, now uint64) (Output, []api.Message) {
	t.Helper()
	o, messages, m := w.truth(t)
	i, err := w.r.Propose(o, of(t, m), 3, now)
	if err != nil {
		t.Fatal(err)
	}
	g, _ := w.r.Game(i)
	resolveAll(t, g, now+1000)
	if err := w.r.Finalise(i, shown(t, m)); err != nil {
		t.Fatal(err)
	}
	return o, messages
}

// P21.1: what may be no rollup, and the inbox's bounds.
func TestNewAndBatch(t *testing.T) {
	l := ledger.New()
	if r, err := New(nil, clock.Rules{}, Output{}); r != nil || err != api.ErrNil {
		t.Errorf("%v", err)
	}
	for _, c := range []clock.Rules{{}, {Limit: 5, Grace: 6}, {Limit: 1<<40 + 1}} {
		if r, err := New(l, c, Output{}); r != nil || err != api.ErrRange {
			t.Errorf("%v", err)
		}
	}
	first := Output{api.Hash{1}, api.Hash{2}}
	r, err := New(l, limit, first)
	if err != nil || !reflect.DeepEqual(r.Final(), []Output{first}) {
		t.Fatal(err)
	}
	r.Final()[0] = Output{}
	if r.Final()[0] != first {
		t.Error("Final hands out its own memory")
	}
	if n, err := r.Batch(make([]byte, 4097)); n != 0 || err != api.ErrRange {
		t.Errorf("%d, %v", n, err)
	}
	for i := range 16 {
		if n, err := r.Batch(make([]byte, 4096*(i%2))); n != i || err != nil {
			t.Errorf("%d, %v", n, err)
		}
	}
	if n, err := r.Batch(make([]byte, 4097)); n != 0 || err != api.ErrFull {
		t.Errorf("%d, %v", n, err)
	}
}

// P21.2: the machine of a batch's games.
func TestStart(t *testing.T) {
	w := begin(t)
	for _, n := range []int{0, -1, 1} {
		if m, err := w.r.Start(n); m != nil || err != api.ErrNone {
			t.Errorf("%d: %v", n, err)
		}
	}
	w.batch(t, 0, 7)
	w.batch(t, 1, 8)
	check := func(n int, o Output) {
		t.Helper()
		batch, _ := tx.Commit(stf.Txs(w.inbox[n]))
		want, _ := client.Start(o.Root, o.Out, batch)
		if m, err := w.r.Start(n); err != nil || *m != *want {
			t.Errorf("%d: %v", n, err)
		}
	}
	check(0, w.first)
	if m, err := w.r.Start(1); m != nil || err != api.ErrNone {
		t.Errorf("no output 1 yet: %v", err)
	}
	o, _ := w.become(t, 0)
	check(0, w.first)
	check(1, o)
	for _, n := range []int{-1, 2, 1 << 62} {
		if m, err := w.r.Start(n); m != nil || err != api.ErrNone {
			t.Errorf("%d: %v", n, err)
		}
	}
}

// P21.2: proposals, their games, and what is refused.
func TestPropose(t *testing.T) {
	w := begin(t)
	o, final := Output{api.Hash{1}, api.Hash{2}}, api.Hash{3}
	if n, err := w.r.Propose(o, final, 9, 1<<41); n != 0 || err != api.ErrNone {
		t.Errorf("%d, %v", n, err)
	}
	if _, err := w.r.Game(0); err != api.ErrNone {
		t.Error(err)
	}
	w.batch(t, 0, 7)
	for _, c := range []struct {
		player int
		now    uint64
	}{{8, 0}, {-1, 0}, {0, 1<<40 + 1}} {
		if n, err := w.r.Propose(o, final, c.player, c.now); n != 0 || err != api.ErrRange {
			t.Errorf("%d, %v", n, err)
		}
	}
	w.l.PayOut(5, 1000)
	if _, err := w.r.Propose(o, final, 5, 0); err != api.ErrFunds {
		t.Error(err)
	}
	if n, err := w.r.Propose(o, final, 4, 77); n != 0 || err != nil {
		t.Fatalf("%d, %v", n, err)
	}
	g, err := w.r.Game(0)
	if err != nil {
		t.Fatal(err)
	}
	m, _ := w.r.Start(0)
	if want := (game.Rules{Depth: 20, Clock: limit, Start: of(t, m)}); g.Rules() != want {
		t.Errorf("%+v", g.Rules())
	}
	if c, _ := g.Claim(0); c.Value != final || c.Player != 4 || c.Clock.At != 77 {
		t.Errorf("%+v", c)
	}
	if b, _ := w.l.Balance(4); b != 999 {
		t.Errorf("%d", b)
	}
	if n, err := w.r.Propose(o, final, 9, 0); n != 0 || err != api.ErrTwice {
		t.Errorf("%d, %v", n, err)
	}
	for i, c := range []struct {
		o     Output
		final api.Hash
	}{{Output{api.Hash{1}, api.Hash{9}}, final}, {Output{api.Hash{9}, api.Hash{2}}, final}, {o, api.Hash{9}}} {
		if n, err := w.r.Propose(c.o, c.final, 0, 0); n != i+1 || err != nil {
			t.Errorf("%d, %v", n, err)
		}
	}
	for i := 4; i < 16; i++ {
		if n, err := w.r.Propose(o, api.Hash{8, byte(i)}, 0, 0); n != i || err != nil {
			t.Errorf("%d, %v", n, err)
		}
	}
	if n, err := w.r.Propose(o, final, 9, 0); n != 0 || err != api.ErrFull {
		t.Errorf("%d, %v", n, err)
	}
	for _, i := range []int{-1, 16} {
		if g, err := w.r.Game(i); g != nil || err != api.ErrNone {
			t.Errorf("%d: %v", i, err)
		}
		if err := w.r.Finalise(i, Shown{}); err != api.ErrNone {
			t.Errorf("%d: %v", i, err)
		}
	}
	same, _ := w.r.Game(0)
	g.Move(0, false, api.Hash{1}, 0, 2, 80)
	if same != g || same.Len() != 2 {
		t.Error("a game is not the rollup's own")
	}
}

// P21.3: what shows an output, and what doesn't.
func TestShowAndTold(t *testing.T) {
	w := begin(t)
	w.batch(t, 0, 7, 8)
	o, _, m := w.truth(t)
	s := shown(t, m)
	final := of(t, m)
	if told, err := Told(final, s); told != stf.Output(o.Root, o.Out) || err != nil {
		t.Errorf("%x, %v", told, err)
	}
	if x, err := Show(nil); !reflect.DeepEqual(x, Shown{}) || err != api.ErrNil {
		t.Error(err)
	}
	if x, err := Show(&vm.Machine{}); !reflect.DeepEqual(x, Shown{}) || err != api.ErrOpen {
		t.Error(err)
	}
	refused := func(name string, final api.Hash, s Shown, want error) {
		t.Helper()
		if told, err := Told(final, s); told != (api.Hash{}) || err != want {
			t.Errorf("%s: %x, %v", name, told, err)
		}
	}
	with := func(change func(x *Shown)) Shown {
		x := s
		x.Words = append([]commit.Proof(nil), s.Words...)
		change(&x)
		return x
	}
	refused("none", final, Shown{}, api.ErrShape)
	refused("three", api.Hash{}, with(func(x *Shown) { x.Words = x.Words[:3] }), api.ErrShape)
	refused("five", final, with(func(x *Shown) { x.Words = append(x.Words, x.Words[0]) }), api.ErrShape)
	refused("a short path", api.Hash{}, with(func(x *Shown) { x.Words[3].Path = x.Words[3].Path[:12] }), api.ErrShape)
	refused("another commitment", api.Hash{1}, s, api.ErrProof)
	refused("another memory", final, with(func(x *Shown) { x.Memory[0] ^= 1 }), api.ErrProof)
	refused("another head", final, with(func(x *Shown) { x.Head.Pc++ }), api.ErrProof)
	refused("another word", final, with(func(x *Shown) { x.Words[2].Value++ }), api.ErrProof)
	refused("another order", final, with(func(x *Shown) { x.Words[0], x.Words[1] = x.Words[1], x.Words[0] }), api.ErrProof)
	for name, change := range map[string]func(m *vm.Machine){"not halted": func(m *vm.Machine) { m.Halted = false }, "an exit": func(m *vm.Machine) { m.Exit = 12 }} {
		other := m.Copy()
		change(other)
		x := s
		x.Head, _ = commit.HeadOf(other)
		refused(name, of(t, other), x, api.ErrProof)
	}
	halted := &vm.Machine{Halted: true, Exit: 5}
	if _, err := Told(of(t, halted), shown(t, halted)); err != api.ErrProof {
		t.Error(err)
	}
}

// P21.4: what may be final, and what may not.
func TestFinalise(t *testing.T) {
	w := begin(t)
	w.batch(t, 0, 7)
	o, _, m := w.truth(t)
	s, final := shown(t, m), of(t, m)
	wrong := Output{o.Root, api.Hash{9}}
	for _, c := range []struct {
		o     Output
		final api.Hash
	}{{o, final}, {wrong, final}, {o, api.Hash{1}}, {Output{}, final}} {
		if _, err := w.r.Propose(c.o, c.final, 3, 0); err != nil {
			t.Fatal(err)
		}
	}
	finalise := func(i int, s Shown, want error) {
		t.Helper()
		n := len(w.r.Final())
		if err := w.r.Finalise(i, s); !errors.Is(err, want) || err == nil != (want == nil) || want != nil && len(w.r.Final()) != n {
			t.Errorf("%d: %v; want %v", i, err, want)
		}
	}
	finalise(0, Shown{}, api.ErrOpen)
	lost, _ := w.r.Game(2)
	lost.Move(0, false, api.Hash{}, 1, 2, 0)
	for i := range 3 {
		g, _ := w.r.Game(i)
		resolveAll(t, g, 1000)
	}
	finalise(2, s, api.ErrResolved)
	finalise(0, Shown{}, api.ErrShape)
	short := s
	short.Memory[1] ^= 1
	finalise(0, short, api.ErrProof)
	finalise(1, s, api.ErrProof)
	finalise(0, s, nil)
	if got := w.r.Final(); len(got) != 2 || got[1] != o {
		t.Errorf("%+v", got)
	}
	for i := range 4 {
		finalise(i, s, api.ErrResolved)
	}
	if _, err := w.r.Propose(o, final, 3, 0); err != api.ErrNone {
		t.Errorf("no batch is left: %v", err)
	}
	w.batch(t, 1)
	if _, err := w.r.Propose(o, final, 3, 0); err != nil {
		t.Errorf("the same for a later batch: %v", err)
	}
}

// P21.5, P8: messages are withdrawn once each, in whatever lists they are shown.
func TestWithdraw(t *testing.T) {
	w := begin(t)
	w.batch(t, 0, 7, 7, 9)
	w.batch(t, 3, 7)
	o, messages := w.become(t, 0)
	o2, more := w.become(t, 1000)
	if len(messages) != 3 || len(more) != 1 || o2.Out != stf.Chain(o.Out, more) {
		t.Fatalf("%v, %v", messages, more)
	}
	all := append(append([]api.Message(nil), messages...), more...)
	other := append([]api.Message(nil), all...)
	other[0].Word++
	none := api.Hash{}
	for i, c := range []struct {
		n      int
		before api.Hash
		list   []api.Message
		i      int
		want   error
	}{
		{-1, none, nil, -1, api.ErrNone}, {3, none, nil, -1, api.ErrNone}, {1, none, messages, -1, api.ErrRange}, {1, none, other, 4, api.ErrRange}, {0, none, nil, 0, api.ErrRange},
		{1, none, all, 0, api.ErrProof}, {2, none, messages, 0, api.ErrProof}, {2, none, other, 1, api.ErrProof}, {1, api.Hash{1}, messages, 0, api.ErrProof}, {0, none, messages, 0, api.ErrProof},
		{1, none, messages, 1, nil}, {1, none, messages, 1, api.ErrTwice}, {2, none, all, 1, api.ErrTwice}, {2, none, all, 0, nil}, {1, none, messages, 0, api.ErrTwice},
		{2, o.Out, more, 0, nil}, {2, none, all, 3, api.ErrTwice}, {2, stf.Chain(none, messages[:2]), all[2:], 0, nil}, {1, none, messages, 2, api.ErrTwice},
	} {
		m, err := w.r.Withdraw(c.n, c.before, c.list, c.i)
		if err != c.want || err == nil && m != c.list[c.i] || err != nil && m != (api.Message{}) {
			t.Errorf("%d: %v, %v; want %v", i, m, err, c.want)
		}
	}
}

// P21.1 to P21.5: nil.
func TestNil(t *testing.T) {
	var r *Rollup
	_, batch := r.Batch(make([]byte, 9999))
	_, start := r.Start(-1)
	_, propose := r.Propose(Output{}, api.Hash{}, 9, 1<<41)
	_, of := r.Game(-1)
	_, withdraw := r.Withdraw(-1, api.Hash{}, nil, -1)
	for i, err := range []error{batch, start, propose, of, withdraw, r.Finalise(-1, Shown{})} {
		if err != api.ErrNil {
			t.Errorf("%d: %v", i, err)
		}
	}
	if len(r.Final()) != 0 {
		t.Error("nil has outputs")
	}
	bare := &Rollup{}
	if _, err := bare.Propose(Output{}, api.Hash{}, 0, 0); err != api.ErrNone {
		t.Error(err)
	}
}

// A batch that is none: the right output is the one ahead of it.
func TestNoBatch(t *testing.T) {
	w := begin(t)
	w.r.Batch([]byte{1})
	w.inbox = append(w.inbox, []byte{1})
	if o, messages := w.become(t, 0); o != w.first || len(messages) != 0 {
		t.Errorf("%+v", o)
	}
}

// P3, P5: liars of all kinds, and the honest side that answers them: only the truth becomes final.
func TestDisputes(t *testing.T) {
	w := begin(t)
	w.batch(t, 0, 7, 8)
	o, _, m := w.truth(t)
	s, final := shown(t, m), of(t, m)
	bad := final
	bad[0] ^= 7
	first, _ := w.r.Start(0)
	trace, err := honest.New(first, w.s, api.GameDepth)
	if err != nil {
		t.Fatal(err)
	}
	for i, value := range []api.Hash{bad, final} {
		n, err := w.r.Propose(o, value, i, 0)
		if err != nil {
			t.Fatal(err)
		}
		g, _ := w.r.Game(n)
		for depth := range 20 {
			for {
				list, err := honest.Actions(g, trace)
				if err != nil {
					t.Fatal(err)
				}
				for _, a := range list {
					if err := honest.Act(g, a, 5, 0); err != nil {
						t.Fatal(err)
					}
				}
				if len(list) == 0 {
					break
				}
			}
			// The liar attacks or defends the last claim, if it is not the deepest.
			last := g.Len() - 1
			value := api.Hash{byte(depth), byte(i)}
			if err := honest.Act(g, honest.Action{Claim: last, Defend: last > 0 && depth%3 == 0, Value: value}, 6, 0); err != nil && !errors.Is(err, api.ErrMove) {
				t.Fatal(err)
			}
		}
		if list, err := honest.Actions(g, trace); err != nil || i == 0 && g.Len() < 20 {
			t.Fatalf("%d claims, %v", g.Len(), err)
		} else {
			for _, a := range list {
				if err := honest.Act(g, a, 5, 0); err != nil {
					t.Fatal(err)
				}
			}
		}
		resolveAll(t, g, 1000)
		if want := 2 - i; g.Status() != want {
			t.Errorf("status %d; want %d", g.Status(), want)
		}
	}
	if err := w.r.Finalise(0, s); err != api.ErrResolved {
		t.Error(err)
	}
	if err := w.r.Finalise(1, s); err != nil {
		t.Error(err)
	}
	if b, _ := w.l.Balance(5); b < 1000 {
		t.Errorf("the honest one has %d", b)
	}
	if w.l.Locked() != 0 {
		t.Errorf("%d locked", w.l.Locked())
	}
}
