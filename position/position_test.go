package position

import (
	"testing"

	"moot/api"
)

const end = 1 << 25

// P16.1: all positions and their parts.
func TestMakeAndParts(t *testing.T) {
	for depth := 0; depth <= 24; depth++ {
		for _, index := range []uint64{0, 1, 2, 1<<depth - 2, 1<<depth - 1} {
			if index >= 1<<depth {
				continue
			}
			p, err := Make(depth, index)
			if p != 1<<depth+index || err != nil {
				t.Errorf("Make %d, %d: %d, %v", depth, index, p, err)
			}
			if d, i, err := Parts(p); d != depth || i != index || err != nil {
				t.Errorf("Parts %d: %d, %d, %v", p, d, i, err)
			}
		}
		if p, err := Make(depth, 1<<depth); p != 0 || err != api.ErrRange {
			t.Errorf("Make %d: %d, %v", depth, p, err)
		}
	}
	for _, depth := range []int{-1, 25, 64, 1 << 40, -1 << 63} {
		if p, err := Make(depth, 0); p != 0 || err != api.ErrRange {
			t.Errorf("Make %d: %d, %v", depth, p, err)
		}
	}
}

// P16.1: all others answer ErrRange first, if it is no position.
func TestNoPositions(t *testing.T) {
	for _, p := range []uint64{0, end, 1 << 40, 1<<64 - 1} {
		d, i, err := Parts(p)
		if d != 0 || i != 0 || err != api.ErrRange {
			t.Errorf("Parts %d: %v", p, err)
		}
		for name, f := range map[string]func(uint64) (uint64, error){"Attack": Attack, "Defend": Defend,
			"Trace": func(p uint64) (uint64, error) { return Trace(p, 24) }, "Highest": func(p uint64) (uint64, error) { return Highest(p, 24) }} {
			if v, err := f(p); v != 0 || err != api.ErrRange {
				t.Errorf("%s %d: %d, %v", name, p, v, err)
			}
		}
	}
}

// last: the rightmost position of a depth below p, one level after the other.
func last(p uint64, levels int) uint64 {
	for range levels {
		p = 2*p + 1
	}
	return p
}

// P16.2, P16.3: trace indices and the highest positions with them.
func TestTraceAndHighest(t *testing.T) {
	for p := uint64(1); p < 256; p++ {
		own, _, _ := Parts(p)
		for depth := -1; depth <= 25; depth++ {
			got, err := Trace(p, depth)
			high, highErr := Highest(p, depth)
			if depth < own || depth > 24 {
				if got != 0 || high != 0 || err != api.ErrRange || highErr != api.ErrRange {
					t.Errorf("%d, %d: %v, %v", p, depth, err, highErr)
				}
				continue
			}
			if want := last(p, depth-own) - 1<<depth; got != want || err != nil {
				t.Errorf("Trace %d, %d: %d, %v; want %d", p, depth, got, err, want)
			}
			if want := leastWith(got, depth); high != want || highErr != nil {
				t.Errorf("Highest %d, %d: %d, %v; want %d", p, depth, high, highErr, want)
			}
		}
	}
}

// leastWith: the position with the least depth that has a trace index, found by asking all of them.
func leastWith(trace uint64, depth int) uint64 {
	for d := 0; d <= depth; d++ {
		if index := (trace + 1) >> (depth - d); index > 0 && index<<(depth-d) == trace+1 {
			return 1<<d + index - 1
		}
	}
	return 0
}

// P16.2: attacks and defences, and what follows of their trace indices.
func TestMoves(t *testing.T) {
	for p := uint64(1); p < end; p += 1 + p/97 {
		depth, index, _ := Parts(p)
		a, err := Attack(p)
		d, defendErr := Defend(p)
		if depth == 24 {
			if a != 0 || d != 0 || err != api.ErrRange || defendErr != api.ErrRange {
				t.Errorf("%d: %v, %v", p, err, defendErr)
			}
			continue
		}
		if a != 2*p || err != nil {
			t.Errorf("Attack %d: %d, %v", p, a, err)
		}
		if index == 1<<depth-1 {
			if d != 0 || defendErr != api.ErrMove {
				t.Errorf("Defend %d: %d, %v", p, d, defendErr)
			}
			continue
		}
		if d != 2*p+2 || defendErr != nil {
			t.Errorf("Defend %d: %d, %v", p, d, defendErr)
		}
		for m := depth + 1; m <= 24; m++ {
			own, _ := Trace(p, m)
			less, _ := Trace(a, m)
			more, _ := Trace(d, m)
			if less >= own || more <= own {
				t.Errorf("%d at %d: %d, %d, %d", p, m, less, own, more)
			}
		}
	}
	for _, p := range []uint64{end - 1, 1 << 24} {
		if _, err := Attack(p); err != api.ErrRange {
			t.Errorf("Attack %d: %v", p, err)
		}
		if _, err := Defend(p); err != api.ErrRange {
			t.Errorf("Defend %d: %v", p, err)
		}
	}
}

// P16: the document's examples.
func TestExamples(t *testing.T) {
	p, _ := Make(2, 1)
	d, i, _ := Parts(5)
	trace, _ := Trace(5, 4)
	a, _ := Attack(5)
	b, _ := Defend(5)
	_, none := Defend(7)
	h, _ := Highest(5, 2)
	_, short := Trace(5, 1)
	if p != 5 || d != 2 || i != 1 || trace != 7 || a != 10 || b != 12 || none != api.ErrMove || h != 2 || short != api.ErrRange {
		t.Error(p, d, i, trace, a, b, none, h, short)
	}
}
