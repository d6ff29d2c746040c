package game

import (
	"errors"
	"reflect"
	"testing"

	"moot/api"
	"moot/clock"
	"moot/commit"
	"moot/ledger"
	"moot/onestep"
	"moot/position"
	"moot/vm"
	"moot/witness"
)

// trace is a machine that counts, step by step.
type trace struct {
	depth  int
	values []api.Hash // behind i steps
	proofs []onestep.Step
}

func traceOf(t *testing.T, depth int) trace {
	t.Helper()
	li, _ := vm.Code(26, 1, 0, 0, 0, 3)
	add, _ := vm.Code(1, 2, 2, 1, 0, 0)
	back, _ := vm.Code(29, 0, 0, 0, 0, 1)
	m, _ := vm.Load([]uint64{li, add, back})
	s := witness.New()
	x := trace{depth: depth}
	for range 1<<depth + 1 {
		h, _ := commit.Of(m)
		p, err := onestep.Prove(m, s)
		if err != nil {
			t.Fatal(err)
		}
		x.values = append(x.values, h)
		x.proofs = append(x.proofs, p)
		m.Step(s)
	}
	return x
}

// at: the right value of a position.
func (x trace) at(t *testing.T, p uint64) api.Hash {
	t.Helper()
	i, err := position.Trace(p, x.depth)
	if err != nil {
		t.Fatal(err)
	}
	return x.values[i+1]
}

func rich(t *testing.T) *ledger.Ledger {
	t.Helper()
	l := ledger.New()
	for p := range 8 {
		if err := l.PayIn(p, 1000); err != nil {
			t.Fatal(err)
		}
	}
	return l
}

var limit = clock.Rules{Limit: 10}

func begin(t *testing.T, l *ledger.Ledger, r Rules, player int, root api.Hash, now uint64) *Game {
	t.Helper()
	g, err := New(r, l, player, root, now)
	if err != nil {
		t.Fatal(err)
	}
	return g
}

// fault: an Errno, wrapped in a Fault at a claim.
func fault(t *testing.T, name string, err error, at int, want error) {
	t.Helper()
	var f *api.Fault
	if !errors.Is(err, want) || !errors.As(err, &f) || f.At != at {
		t.Errorf("%s: %v; want %v at %d", name, err, want, at)
	}
}

func answer(t *testing.T, g *Game, claim int, defend bool, value api.Hash, player int, now uint64) int {
	t.Helper()
	c, err := g.Claim(claim)
	if err != nil {
		t.Fatal(err)
	}
	depth, _, _ := position.Parts(c.Position)
	n, err := g.Move(claim, defend, value, player, Bond(depth+1), now)
	if err != nil {
		t.Fatalf("claim %d: %v", claim, err)
	}
	return n
}

func balance(t *testing.T, l *ledger.Ledger, player int, want uint64) {
	t.Helper()
	if got, _ := l.Balance(player); got != want {
		t.Errorf("player %d: %d; want %d", player, got, want)
	}
}

// P19.1: bonds, and what may be no game.
func TestNew(t *testing.T) {
	for depth, want := range map[int]uint64{-1: 0, -1 << 63: 0, 0: 1, 1: 2, 20: 21, 1<<63 - 1: 1 << 63} {
		if got := Bond(depth); got != want {
			t.Errorf("Bond %d: %d", depth, got)
		}
	}
	l, root, start := rich(t), api.Hash{1}, api.Hash{2}
	r := Rules{Depth: 20, Clock: limit, Start: start}
	for i, c := range []struct {
		r      Rules
		l      *ledger.Ledger
		player int
		now    uint64
		want   error
	}{
		{Rules{}, nil, 9, 1 << 41, api.ErrNil}, {Rules{0, limit, start}, l, 9, 0, api.ErrRange}, {Rules{21, limit, start}, l, 0, 0, api.ErrRange}, {Rules{-1, limit, start}, l, 0, 0, api.ErrRange},
		{Rules{2, clock.Rules{}, start}, l, 0, 0, api.ErrRange}, {r, l, 0, 1<<40 + 1, api.ErrRange}, {r, l, 8, 0, api.ErrRange}, {r, l, -1, 0, api.ErrRange}, {r, ledger.New(), 0, 0, api.ErrFunds},
	} {
		if g, err := New(c.r, c.l, c.player, root, c.now); g != nil || err != c.want {
			t.Errorf("%d: %v", i, err)
		}
	}
	if l.Locked() != 0 {
		t.Error("a bond is locked")
	}
	g := begin(t, l, r, 3, root, 1<<40)
	c, err := g.Claim(0)
	if want := (Claim{Parent: -1, Position: 1, Value: root, Player: 3, Clock: clock.Clock{At: 1 << 40}, By: 3}); c != want || err != nil || g.Len() != 1 || g.Status() != 0 || g.Rules() != r {
		t.Errorf("%+v, %v", c, err)
	}
	balance(t, l, 3, 999)
	second := begin(t, l, Rules{1, limit, start}, 2, root, 0)
	if c, _ := second.Claim(0); c.Bond != 1 {
		t.Errorf("bond %d", c.Bond)
	}
}

// P19: the document's example.
func TestExample(t *testing.T) {
	l := rich(t)
	a, b := api.Hash{1}, api.Hash{2}
	g := begin(t, l, Rules{Depth: 2, Clock: limit}, 0, a, 0)
	_, err := g.Move(0, true, b, 1, 2, 3)
	fault(t, "defend", err, 0, api.ErrMove)
	n, err := g.Move(0, false, b, 1, 2, 3)
	c, _ := g.Claim(1)
	if want := (Claim{Position: 2, Value: b, Player: 1, Bond: 1, Clock: clock.Clock{Used: 3, At: 3}, By: 1}); n != 1 || err != nil || c != want {
		t.Errorf("%d, %v, %+v", n, err, c)
	}
	_, err = g.Move(0, false, b, 1, 2, 3)
	fault(t, "twice", err, 0, api.ErrTwice)
	fault(t, "open answer", g.Resolve(0, 99), 0, api.ErrOpen)
	fault(t, "early", g.Resolve(1, 9), 1, api.ErrOpen)
	fault(t, "early", g.Resolve(1, 12), 1, api.ErrOpen)
	if err := g.Resolve(1, 13); err != nil {
		t.Error(err)
	}
	if err := g.Resolve(0, 13); err != nil || g.Status() != 2 {
		t.Errorf("%v, %d", err, g.Status())
	}
	balance(t, l, 0, 999)
	balance(t, l, 1, 1001)
	if c, _ := g.Claim(0); !c.Resolved || !c.Countered || c.By != 1 {
		t.Errorf("%+v", c)
	}
	if c, _ := g.Claim(1); !c.Resolved || c.Countered || c.By != 1 {
		t.Errorf("%+v", c)
	}
}

// P19.2: the errors of a move, in their order, with nothing changed.
func TestMoveErrors(t *testing.T) {
	l := rich(t)
	value := api.Hash{7}
	g := begin(t, l, Rules{Depth: 2, Clock: limit}, 0, api.Hash{1}, 5)
	answer(t, g, 0, false, value, 1, 6)
	answer(t, g, 1, true, value, 2, 6)
	poor := 7
	l.PayOut(poor, 999)
	locked := l.Locked()
	for i, c := range []struct {
		claim     int
		defend    bool
		value     api.Hash
		player    int
		bond, now uint64
		want      error
	}{
		{-1, true, value, 9, 0, 0, api.ErrNone}, {3, true, value, 9, 0, 0, api.ErrNone}, {1 << 62, true, value, 9, 0, 0, api.ErrNone},
		{2, false, value, 9, 0, 0, api.ErrMove}, {0, true, value, 9, 0, 0, api.ErrMove}, {0, false, value, 9, 1, 0, api.ErrBond}, {0, false, value, 9, 3, 0, api.ErrBond}, {1, false, value, 9, 2, 0, api.ErrBond},
		{0, false, value, 9, 2, 0, api.ErrTwice}, {1, true, value, 9, 3, 0, api.ErrTwice}, {1, false, value, 9, 3, 5, api.ErrRange}, {1, false, value, 9, 3, 1<<40 + 1, api.ErrRange},
		{0, false, api.Hash{8}, 9, 2, 15, api.ErrClock}, {1, false, value, 9, 3, 16, api.ErrClock}, {1, false, value, 9, 3, 15, api.ErrRange}, {1, false, value, 8, 3, 14, api.ErrRange}, {1, false, value, poor, 3, 14, api.ErrFunds},
	} {
		n, err := g.Move(c.claim, c.defend, c.value, c.player, c.bond, c.now)
		fault(t, "move", err, c.claim, c.want)
		if n != 0 || g.Len() != 3 || l.Locked() != locked {
			t.Errorf("%d: %d has changed something", i, n)
		}
	}
	answer(t, g, 1, false, value, 3, 14)
	for i := 3; i >= 0; i-- {
		if err := g.Resolve(i, 24); err != nil {
			t.Error(err)
		}
		_, err := g.Move(i, true, value, 9, 0, 0)
		fault(t, "resolved", err, i, api.ErrResolved)
	}
}

// P19.2: clocks of answers, and the grace behind each.
func TestClocks(t *testing.T) {
	l := rich(t)
	g := begin(t, l, Rules{Depth: 5, Clock: clock.Rules{Limit: 10, Grace: 2}}, 0, api.Hash{1}, 100)
	for i, c := range []struct{ now, used uint64 }{{104, 4}, {107, 3}, {112, 8}, {116, 7}, {117, 8}} {
		n := answer(t, g, i, false, api.Hash{byte(i)}, 1, c.now)
		if got, _ := g.Claim(n); got.Clock != (clock.Clock{Used: c.used, At: c.now}) {
			t.Errorf("%d: %+v", n, got.Clock)
		}
	}
	fault(t, "grace", g.Resolve(5, 119), 5, api.ErrOpen)
	if err := g.Resolve(5, 120); err != nil {
		t.Error(err)
	}
}

// P19.2: no more claims than there may be.
func TestMaxClaims(t *testing.T) {
	l := rich(t)
	g := begin(t, l, Rules{Depth: 3, Clock: limit}, 0, api.Hash{1}, 0)
	for i := 1; i < 64; i++ {
		answer(t, g, 0, false, api.Hash{1, byte(i)}, i%8, 0)
	}
	_, err := g.Move(0, false, api.Hash{9}, 9, 2, 0)
	fault(t, "full", err, 0, api.ErrFull)
	_, err = g.Move(0, false, api.Hash{9}, 1, 2, 99)
	fault(t, "late", err, 0, api.ErrClock)
	if g.Len() != 64 {
		t.Errorf("%d claims", g.Len())
	}
}

// P19.4: of several uncountered answers the one with the least position, of those the first.
func TestWinners(t *testing.T) {
	for i, c := range []struct {
		order []bool // defences
		by    int
	}{{[]bool{true, false}, 3}, {[]bool{false, true}, 2}, {[]bool{true, true}, 2}, {[]bool{true, false, false}, 3}} {
		l := rich(t)
		g := begin(t, l, Rules{Depth: 3, Clock: limit}, 0, api.Hash{1}, 0)
		answer(t, g, 0, false, api.Hash{2}, 1, 0)
		for j, defend := range c.order {
			answer(t, g, 1, defend, api.Hash{3, byte(j)}, 2+j, 0)
		}
		for n := g.Len() - 1; n >= 0; n-- {
			if err := g.Resolve(n, 20); err != nil {
				t.Fatal(err)
			}
		}
		if x, _ := g.Claim(1); !x.Countered || x.By != c.by || x.Player != 1 {
			t.Errorf("%d: %+v", i, x)
		}
		if x, _ := g.Claim(0); x.Countered || x.By != 0 || g.Status() != 1 {
			t.Errorf("%d: %+v", i, x)
		}
		balance(t, l, 0, 1000)
		balance(t, l, 1, 998)
		balance(t, l, c.by, 1002)
		if in, out := l.Flows(); l.Locked() != 0 || in != 8000 || out != 0 {
			t.Errorf("%d: %d locked", i, l.Locked())
		}
	}
}

// descent plays a line of claims: at each level the values are right or not, and attack or defence is told. The last claim.
func descent(t *testing.T, g *Game, x trace, line []struct{ defend, right bool }) int {
	t.Helper()
	n := 0
	for i, c := range line {
		parent, _ := g.Claim(n)
		p, err := position.Attack(parent.Position)
		if c.defend {
			p, err = position.Defend(parent.Position)
		}
		if err != nil {
			t.Fatal(err)
		}
		value := x.at(t, p)
		if !c.right {
			value[0] ^= byte(i + 1)
		}
		n = answer(t, g, n, c.defend, value, 1+i%2, 0)
	}
	return n
}

type play = struct{ defend, right bool }

// P19.3: steps that counter and steps that don't, by attack and by defence, at all places of a small trace.
func TestSteps(t *testing.T) {
	x := traceOf(t, 3)
	countered := 0
	for mask := range 1 << 6 {
		line := make([]play, 3)
		for i := range line {
			line[i] = play{mask>>i&1 == 1, mask>>(3+i)&1 == 1}
		}
		if line[0].defend {
			continue
		}
		for _, rootRight := range []bool{true, false} {
			root := x.values[8]
			if !rootRight {
				root[5] ^= 9
			}
			for _, defend := range []bool{true, false} {
				g := begin(t, rich(t), Rules{Depth: 3, Clock: limit, Start: x.values[0]}, 0, root, 0)
				n := descent(t, g, x, line)
				if checkShown(t, g, x, n, defend) {
					countered++
				}
			}
		}
	}
	if countered < 20 {
		t.Errorf("only %d steps countered", countered)
	}
}

// checkShown: a step against a claim, with the right proof, against what the document says of it.
func checkShown(t *testing.T, g *Game, x trace, n int, defend bool) bool {
	t.Helper()
	c, _ := g.Claim(n)
	index := c.Position - 8
	from := index
	if defend {
		from++
	}
	claimed := map[uint64]Claim{}
	for i := range g.Len() {
		p, _ := g.Claim(i)
		trace, _ := position.Trace(p.Position, 3)
		claimed[trace] = p
	}
	ahead := x.values[0]
	if from > 0 {
		ahead = claimed[from-1].Value
	}
	behind := claimed[from]
	want := error(nil)
	depth, _, _ := position.Parts(behind.Position)
	switch {
	case ahead != x.values[from]:
		want = api.ErrProof
	case (behind.Value == x.values[from+1]) == ((3-depth)%2 == 0):
		want = api.ErrValid
	}
	err := g.Step(n, defend, x.proofs[from], 5, 0)
	after, _ := g.Claim(n)
	if want != nil {
		fault(t, "step", err, n, want)
		if after != c {
			t.Errorf("%d: %+v", n, after)
		}
		return false
	}
	c.Stepped, c.By = true, 5
	if err != nil || after != c {
		t.Errorf("%d: %v, %+v", n, err, after)
	}
	fault(t, "again", g.Step(n, defend, x.proofs[from], 6, 99), n, api.ErrTwice)
	return true
}

// P19.3: the errors of a step, in their order.
func TestStepErrors(t *testing.T) {
	x := traceOf(t, 2)
	l := rich(t)
	g := begin(t, l, Rules{Depth: 2, Clock: limit, Start: x.values[0]}, 0, x.values[4], 0)
	n := descent(t, g, x, []play{{false, true}, {false, false}})
	good, other := x.proofs[0], x.proofs[1]
	for _, c := range []struct {
		claim  int
		defend bool
		p      onestep.Step
		player int
		now    uint64
		want   error
	}{
		{-1, false, good, 9, 99, api.ErrNone}, {3, false, good, 9, 99, api.ErrNone}, {0, false, good, 9, 99, api.ErrRange}, {0, false, good, -1, 99, api.ErrRange}, {0, false, good, 1, 99, api.ErrMove}, {1, true, good, 1, 99, api.ErrMove},
		{n, false, other, 1, 1<<40 + 1, api.ErrRange}, {n, false, other, 1, 10, api.ErrClock}, {n, false, other, 1, 9, api.ErrProof}, {n, true, good, 1, 9, api.ErrProof},
	} {
		fault(t, "step", g.Step(c.claim, c.defend, c.p, c.player, c.now), c.claim, c.want)
	}
	long := good
	long.Proofs = append(append([]commit.Proof(nil), good.Proofs...), commit.Proof{})
	fault(t, "long", g.Step(n, false, long, 1, 9), n, api.ErrShape)
	if err := g.Step(n, false, good, 4, 9); err != nil {
		t.Error(err)
	}
	fault(t, "twice", g.Step(n, false, other, 1, 99), n, api.ErrTwice)
	fault(t, "open", g.Resolve(n, 9), n, api.ErrOpen)
	for i := n; i >= 0; i-- {
		if err := g.Resolve(i, 20); err != nil {
			t.Error(err)
		}
		fault(t, "resolved", g.Step(i, false, good, 9, 0), i, api.ErrResolved)
	}
	if c, _ := g.Claim(n); !c.Countered || c.By != 4 || g.Status() != 2 {
		t.Errorf("%+v, %d", c, g.Status())
	}
	// The step's bond goes to who showed it; claim 1 stands, and counters the first one.
	balance(t, l, 4, 1003)
	balance(t, l, 1, 1001)
	balance(t, l, 2, 997)
	balance(t, l, 0, 999)
}

// P19.3: the last trace index has no step behind it; the first one goes from Start.
func TestStepEdges(t *testing.T) {
	x := traceOf(t, 1)
	g := begin(t, rich(t), Rules{Depth: 1, Clock: limit, Start: x.values[0]}, 0, x.values[2], 0)
	n := answer(t, g, 0, false, x.values[1], 1, 0)
	fault(t, "valid", g.Step(n, false, x.proofs[0], 1, 0), n, api.ErrValid)
	if err := g.Step(n, true, x.proofs[1], 1, 0); err != nil {
		t.Error(err)
	}
}

// P19.4: the errors of resolving, in their order.
func TestResolveErrors(t *testing.T) {
	g := begin(t, rich(t), Rules{Depth: 2, Clock: limit}, 0, api.Hash{1}, 5)
	answer(t, g, 0, false, api.Hash{2}, 1, 6)
	for _, claim := range []int{-1, 2} {
		fault(t, "none", g.Resolve(claim, 99), claim, api.ErrNone)
	}
	fault(t, "answer", g.Resolve(0, 0), 0, api.ErrOpen)
	fault(t, "time", g.Resolve(1, 5), 1, api.ErrRange)
	fault(t, "time", g.Resolve(1, 1<<40+1), 1, api.ErrRange)
	if err := g.Resolve(1, 16); err != nil {
		t.Error(err)
	}
	fault(t, "twice", g.Resolve(1, 0), 1, api.ErrTwice)
	fault(t, "open", g.Resolve(0, 14), 0, api.ErrOpen)
	if g.Status() != 0 {
		t.Error("it is over")
	}
}

// P19.1 to P19.5: nil, and claims that there are not.
func TestNil(t *testing.T) {
	var g *Game
	n, move := g.Move(5, true, api.Hash{}, 9, 0, 0)
	c, claim := g.Claim(7)
	for i, err := range []error{move, claim, g.Step(5, true, onestep.Step{}, 9, 0), g.Resolve(5, 0)} {
		if err != api.ErrNil {
			t.Errorf("%d: %v", i, err)
		}
	}
	if n != 0 || c != (Claim{}) || g.Len() != 0 || g.Status() != 0 || !reflect.DeepEqual(g.Rules(), Rules{}) {
		t.Error("nil is not zero")
	}
	g = begin(t, rich(t), Rules{Depth: 2, Clock: limit}, 0, api.Hash{1}, 0)
	for _, i := range []int{-1, 1} {
		if c, err := g.Claim(i); c != (Claim{}) || err != api.ErrNone {
			t.Errorf("%d: %v", i, err)
		}
	}
	bare := &Game{}
	if _, err := bare.Move(0, false, api.Hash{}, 0, 0, 0); !errors.Is(err, api.ErrNone) || bare.Status() != 0 {
		t.Error(err)
	}
}

// P7: once twice the limit has gone by behind the last claim all of them can be resolved.
func TestEnds(t *testing.T) {
	g := begin(t, rich(t), Rules{Depth: 9, Clock: clock.Rules{Limit: 10, Grace: 9}}, 0, api.Hash{1}, 0)
	now := uint64(0)
	for i := range 9 {
		now += 8
		if i%3 == 0 {
			now -= 5
		}
		answer(t, g, i, false, api.Hash{byte(i)}, i%8, now)
	}
	for i := g.Len() - 1; i >= 0; i-- {
		if err := g.Resolve(i, now+20); err != nil {
			t.Error(err)
		}
	}
}
