package honest

import (
	"errors"
	"math/rand"
	"reflect"
	"testing"

	"moot/api"
	"moot/clock"
	"moot/commit"
	"moot/game"
	"moot/ledger"
	"moot/onestep"
	"moot/position"
	"moot/vm"
	"moot/witness"
)

func code(t *testing.T, op, d, a, b, c int, n int64) uint64 {
	t.Helper()
	w, err := vm.Code(op, d, a, b, c, n)
	if err != nil {
		t.Fatal(err)
	}
	return w
}

// busy: a machine that hashes, asks for what it hashed, stores, and then halts or goes on.
func busy(t *testing.T, halts bool) *vm.Machine {
	t.Helper()
	words := []uint64{code(t, 26, 1, 0, 0, 0, 200), code(t, 26, 2, 0, 0, 0, 300), code(t, 34, 0, 1, 2, 0, 0), code(t, 35, 0, 2, 1, 0, 0),
		code(t, 1, 3, 3, 1, 0, 0), code(t, 28, 0, 1, 3, 0, 0), code(t, 29, 0, 0, 0, 0, 2)}
	if halts {
		words[6] = code(t, 0, 0, 3, 0, 0, 0)
	}
	m, err := vm.Load(words)
	if err != nil {
		t.Fatal(err)
	}
	return m
}

func traceOf(t *testing.T, m *vm.Machine, depth int) *Trace {
	t.Helper()
	x, err := New(m, witness.New(), depth)
	if err != nil {
		t.Fatal(err)
	}
	return x
}

func rich(t *testing.T) *ledger.Ledger {
	t.Helper()
	l := ledger.New()
	for p := range 8 {
		if err := l.PayIn(p, 100000); err != nil {
			t.Fatal(err)
		}
	}
	return l
}

func gameOf(t *testing.T, l *ledger.Ledger, x *Trace, player int, root api.Hash) *game.Game {
	t.Helper()
	start, err := x.Start()
	if err != nil {
		t.Fatal(err)
	}
	g, err := game.New(game.Rules{Depth: x.depth, Clock: clock.Rules{Limit: 1000}, Start: start}, l, player, root, 0)
	if err != nil {
		t.Fatal(err)
	}
	return g
}

func last(t *testing.T, x *Trace) api.Hash {
	t.Helper()
	h, err := x.At(1<<x.depth - 1)
	if err != nil {
		t.Fatal(err)
	}
	return h
}

func actions(t *testing.T, g *game.Game, x *Trace) []Action {
	t.Helper()
	list, err := Actions(g, x)
	if err != nil {
		t.Fatal(err)
	}
	return list
}

// P20.1: values and proofs, asked in any order, of machines that halt and that don't; machine and store stay.
func TestTrace(t *testing.T) {
	for _, halts := range []bool{true, false} {
		m, s := busy(t, halts), witness.New()
		x, err := New(m, s, 5)
		if err != nil {
			t.Fatal(err)
		}
		var values []api.Hash
		var proofs []onestep.Step
		now, mine := m.Copy(), s.Copy()
		for range 33 {
			h, _ := commit.Of(now)
			p, err := onestep.Prove(now, mine)
			if err != nil {
				t.Fatal(err)
			}
			values, proofs = append(values, h), append(proofs, p)
			now.Step(mine)
		}
		m.Memory[0], m.Pc = 0, 7
		for _, i := range []uint64{31, 0, 5, 6, 7, 8, 30, 4, 3, 2, 1, 31, 17} {
			if h, err := x.At(i); h != values[i+1] || err != nil {
				t.Errorf("At %d: %v", i, err)
			}
			if p, err := x.Prove(i); !reflect.DeepEqual(p, proofs[i]) || err != nil {
				t.Errorf("Prove %d: %v", i, err)
			}
		}
		if h, err := x.Start(); h != values[0] || err != nil {
			t.Errorf("Start: %v", err)
		}
		if s.Len() != 16 || len(s.Asked()) != 0 {
			t.Error("the store has changed")
		}
	}
}

// P20.1: the store is the one that was handed in, as it was then.
func TestTraceStore(t *testing.T) {
	s := witness.New()
	p := api.Pre{5}
	h, _ := s.Add(p)
	m, _ := vm.Load([]uint64{code(t, 26, 1, 0, 0, 0, 100), code(t, 26, 2, 0, 0, 0, 200), code(t, 35, 0, 1, 2, 0, 0), 0})
	for i, b := range h {
		m.Memory[100+i/8] = m.Memory[100+i/8]<<8 | uint64(b)
	}
	full, _ := New(m, s, 3)
	s.Drop(h)
	empty, _ := New(m, s, 3)
	s.Add(p)
	if step, err := full.Prove(2); err != nil || step.Pre != p {
		t.Errorf("%v", err)
	}
	if step, err := empty.Prove(2); !reflect.DeepEqual(step, onestep.Step{}) || err != api.ErrMissing {
		t.Errorf("%v", err)
	}
	// P20.3: a game about a step whose preimage is missing can't be asked for.
	for _, x := range []*Trace{full, empty} {
		g := gameOf(t, rich(t), x, 0, last(t, x))
		g.Move(0, false, api.Hash{1}, 1, 2, 0)
		list := actions(t, g, x)
		if len(list) != 1 || Act(g, list[0], 0, 0) != nil {
			t.Fatalf("%+v", list)
		}
		if _, err := g.Move(2, true, api.Hash{2}, 1, 4, 0); err != nil {
			t.Fatal(err)
		}
		list, err := Actions(g, x)
		if x == empty && (list != nil || err != api.ErrMissing) || x == full && (len(list) != 1 || !list[0].Step || err != nil) {
			t.Errorf("%+v, %v", list, err)
		}
	}
}

// P20.1 to P20.4: nil, and what is out of range.
func TestErrors(t *testing.T) {
	m, s := busy(t, true), witness.New()
	for i, c := range []struct {
		m     *vm.Machine
		s     *witness.Store
		depth int
		want  error
	}{{nil, s, 0, api.ErrNil}, {m, nil, 0, api.ErrNil}, {m, s, 0, api.ErrRange}, {m, s, -1, api.ErrRange}, {m, s, 21, api.ErrRange}} {
		if x, err := New(c.m, c.s, c.depth); x != nil || err != c.want {
			t.Errorf("%d: %v", i, err)
		}
	}
	if h, err := traceOf(t, m, 20).At(1<<20 - 1); h == (api.Hash{}) || err != nil {
		t.Errorf("the deepest trace: %v", err)
	}
	x := traceOf(t, m, 4)
	var none *Trace
	var noGame *game.Game
	g := gameOf(t, rich(t), x, 0, last(t, x))
	for _, i := range []uint64{16, 17, 1<<64 - 1} {
		if h, err := x.At(i); h != (api.Hash{}) || err != api.ErrRange {
			t.Errorf("At %d: %v", i, err)
		}
		if p, err := x.Prove(i); !reflect.DeepEqual(p, onestep.Step{}) || err != api.ErrRange {
			t.Errorf("Prove %d: %v", i, err)
		}
	}
	_, start := none.Start()
	_, at := none.At(99)
	_, prove := none.Prove(99)
	_, right1 := Right(noGame, x, 9)
	_, right2 := Right(g, none, 9)
	_, actions1 := Actions(noGame, x)
	_, actions2 := Actions(g, none)
	for i, err := range []error{start, at, prove, right1, right2, actions1, actions2, Act(noGame, Action{}, 9, 0)} {
		if err != api.ErrNil {
			t.Errorf("%d: %v", i, err)
		}
	}
	other := traceOf(t, m, 5)
	if ok, err := Right(g, other, 9); ok || err != api.ErrShape {
		t.Errorf("%v", err)
	}
	if list, err := Actions(g, other); list != nil || err != api.ErrShape {
		t.Errorf("%v", err)
	}
	for _, i := range []int{-1, 1} {
		if ok, err := Right(g, x, i); ok || err != api.ErrNone {
			t.Errorf("%d: %v", i, err)
		}
	}
	if list, err := Actions(&game.Game{}, &Trace{}); len(list) != 0 || err != nil {
		t.Errorf("%v", err)
	}
}

// P20.2: which claims are right.
func TestRight(t *testing.T) {
	x := traceOf(t, busy(t, false), 4)
	g := gameOf(t, rich(t), x, 0, last(t, x))
	good, _ := x.At(7)
	bad, _ := x.At(8)
	for i, c := range []struct {
		claim  int
		defend bool
		value  api.Hash
	}{{0, false, good}, {0, false, bad}, {1, true, api.Hash{}}} {
		c0, _ := g.Claim(c.claim)
		depth, _, _ := position.Parts(c0.Position)
		if _, err := g.Move(c.claim, c.defend, c.value, 1, game.Bond(depth+1), 0); err != nil {
			t.Fatal(i, err)
		}
	}
	for i, want := range []bool{true, true, false, false} {
		if got, err := Right(g, x, i); got != want || err != nil {
			t.Errorf("%d: %v, %v", i, got, err)
		}
	}
}

// P20.4: acts are layer 19's, with its errors.
func TestAct(t *testing.T) {
	x := traceOf(t, busy(t, false), 2)
	l := rich(t)
	g := gameOf(t, l, x, 0, api.Hash{1})
	for _, a := range []Action{{Claim: 5}, {Claim: -1, Step: true}, {Claim: 1 << 40}} {
		var f *api.Fault
		if err := Act(g, a, 1, 0); !errors.Is(err, api.ErrNone) || !errors.As(err, &f) || f.At != a.Claim {
			t.Errorf("%+v: %v", a, err)
		}
	}
	list := actions(t, g, x)
	want, _ := x.At(1)
	if len(list) != 1 || !reflect.DeepEqual(list[0], Action{Value: want}) {
		t.Fatalf("%+v", list)
	}
	if err := Act(g, list[0], 8, 0); !errors.Is(err, api.ErrRange) {
		t.Error(err)
	}
	if err := Act(g, list[0], 6, 7); err != nil {
		t.Error(err)
	}
	c, _ := g.Claim(1)
	if b, _ := l.Balance(6); c.Player != 6 || c.Value != want || c.Clock.At != 7 || b != 100000-2 {
		t.Errorf("%+v, %d", c, b)
	}
	if err := Act(g, list[0], 6, 7); !errors.Is(err, api.ErrTwice) {
		t.Error(err)
	}
	if list := actions(t, g, x); len(list) != 0 {
		t.Errorf("%+v", list)
	}
	if err := Act(g, Action{Claim: 1, Step: true}, 6, 7); !errors.Is(err, api.ErrMove) {
		t.Error(err)
	}
}

// P20: the document's example.
func TestExample(t *testing.T) {
	m := &vm.Machine{}
	x := traceOf(t, m, 1)
	h, _ := x.At(0)
	again, _ := x.At(1)
	if h != again {
		t.Error("a halted machine goes on")
	}
	g := gameOf(t, rich(t), x, 0, h)
	if list := actions(t, g, x); len(list) != 0 {
		t.Errorf("%+v", list)
	}
	if _, err := g.Move(0, false, api.Hash{3}, 1, 2, 0); err != nil {
		t.Fatal(err)
	}
	proof, _ := x.Prove(0)
	list := actions(t, g, x)
	if len(list) != 1 || !reflect.DeepEqual(list[0], Action{Claim: 1, Step: true, Proof: proof}) {
		t.Fatalf("%+v", list)
	}
	if err := Act(g, list[0], 2, 0); err != nil {
		t.Error(err)
	}
	if list := actions(t, g, x); len(list) != 0 {
		t.Errorf("%+v", list)
	}
	g = gameOf(t, rich(t), x, 0, api.Hash{4})
	if list := actions(t, g, x); len(list) != 1 || !reflect.DeepEqual(list[0], Action{Value: h}) {
		t.Errorf("%+v", list)
	}
}

// liar makes claims of all kinds, on both sides, right ones and wrong ones.
func liar(r *rand.Rand, g *game.Game, x *Trace) {
	i := r.Intn(g.Len())
	c, _ := g.Claim(i)
	depth, _, _ := position.Parts(c.Position)
	defend := r.Intn(2) == 0
	if depth == x.depth {
		// Steps that the honest side does not ask for count for nothing, or only where they are due.
		index := c.Position - 1<<depth
		if proof, err := x.Prove(index); err == nil && r.Intn(3) == 0 {
			g.Step(i, defend, proof, 7, 0)
		}
		return
	}
	place, err := target(c.Position, defend)
	if err != nil {
		return
	}
	value, _ := x.valueOf(place)
	if r.Intn(3) > 0 {
		value[0] ^= byte(1 + r.Intn(2))
	}
	g.Move(i, defend, value, 1+r.Intn(3), game.Bond(depth+1), 0)
}

// P3, P6, P20: whatever liars do, what is asked for is never refused, each step that is asked for counters, the game is Kept just if its first claim is right, and the honest one loses nothing.
func TestTruth(t *testing.T) {
	outcomes := map[int]int{}
	steps := 0
	for seed := range int64(400) {
		r := rand.New(rand.NewSource(seed))
		x := traceOf(t, busy(t, seed%3 == 0), 1+r.Intn(5))
		l := rich(t)
		root := last(t, x)
		first := 0
		if r.Intn(2) == 0 {
			root[9] ^= 1
			first = 1
		}
		g := gameOf(t, l, x, first, root)
		for range 4 + r.Intn(8) {
			liar(r, g, x)
			for _, a := range actions(t, g, x) {
				if err := Act(g, a, 0, 0); err != nil {
					t.Fatalf("%d: %+v: %v", seed, a, err)
				}
				if a.Step {
					steps++
				}
			}
			if list := actions(t, g, x); len(list) != 0 {
				t.Fatalf("%d: asked again for %+v", seed, list)
			}
			if g.Len() > 48 {
				break
			}
		}
		for i := g.Len() - 1; i >= 0; i-- {
			if err := g.Resolve(i, 1000); err != nil {
				t.Fatal(err)
			}
		}
		outcomes[g.Status()]++
		if (g.Status() == 1) != (first == 0) {
			t.Fatalf("%d: status %d", seed, g.Status())
		}
		for i := range g.Len() {
			if c, _ := g.Claim(i); c.Player == 0 && c.Countered {
				t.Fatalf("%d: claim %d of the honest one is countered", seed, i)
			}
		}
		if b, _ := l.Balance(0); b < 100000 || l.Locked() != 0 {
			t.Fatalf("%d: the honest one has %d", seed, b)
		}
	}
	if outcomes[1] < 50 || outcomes[2] < 50 || steps < 50 {
		t.Errorf("%v, %d steps", outcomes, steps)
	}
}
