package vm

import (
	"testing"

	"moot/api"
	"moot/keccak"
	"moot/witness"
	"moot/word"
)

const most = 1<<64 - 1

func code(t *testing.T, op, d, a, b, c int, n int64) uint64 {
	t.Helper()
	w, err := Code(op, d, a, b, c, n)
	if err != nil {
		t.Fatalf("%d %d %d %d %d %d: %v", op, d, a, b, c, n, err)
	}
	return w
}

func loaded(t *testing.T, words ...uint64) *Machine {
	t.Helper()
	m, err := Load(words)
	if err != nil {
		t.Fatal(err)
	}
	return m
}

// P10.1: what is loaded, and what is too much.
func TestLoad(t *testing.T) {
	m := loaded(t, 1, 2, 3)
	want := Machine{}
	copy(want.Memory[:], []uint64{1, 2, 3})
	if *m != want {
		t.Error("other words")
	}
	full := make([]uint64, 8192)
	full[8191] = 7
	if m := loaded(t, full...); m.Memory[8191] != 7 {
		t.Error("the last word")
	}
	if m, err := Load(make([]uint64, 8193)); m != nil || err != api.ErrFull {
		t.Errorf("%v", err)
	}
	if m := loaded(t); *m != (Machine{}) {
		t.Error("none")
	}
}

// P10.1: a copy is a machine of its own.
func TestCopy(t *testing.T) {
	m := loaded(t, 1)
	m.Registers[3], m.Pc, m.Halted, m.Exit = 4, 5, true, 6
	c := m.Copy()
	if *c != *m {
		t.Error("unlike")
	}
	c.Memory[0], c.Registers[3] = 9, 9
	if m.Memory[0] != 1 || m.Registers[3] != 4 {
		t.Error("it shares memory")
	}
	var none *Machine
	if none.Copy() != nil {
		t.Error("of nil")
	}
}

// P10.2: the document's examples.
func TestExamples(t *testing.T) {
	s := witness.New()
	m := loaded(t, code(t, 26, 1, 0, 0, 0, 5), code(t, 26, 2, 0, 0, 0, -3), code(t, 1, 3, 1, 2, 0, 0), code(t, 0, 0, 3, 0, 0, 0))
	if n, err := m.Run(s, 100); n != 4 || err != nil || !m.Halted || m.Exit != 2 {
		t.Errorf("%d, %v, %d", n, err, m.Exit)
	}
	m = loaded(t, code(t, 27, 1, 0, 0, 0, -1))
	if n, err := m.Run(s, 100); n != 1 || err != nil || m.Exit != api.Wrong || m.Pc != 0 {
		t.Errorf("%d, %v, %d", n, err, m.Exit)
	}
	m = loaded(t)
	if n, err := m.Run(s, 100); n != 1 || err != nil || !m.Halted || m.Exit != 0 {
		t.Errorf("%d, %v, %d", n, err, m.Exit)
	}
}

// P10.2: who is nil, and how many steps are done.
func TestRunEdges(t *testing.T) {
	s := witness.New()
	var none *Machine
	m := loaded(t, code(t, 29, 0, 0, 0, 0, 0))
	if none.Step(s) != api.ErrNil || m.Step(nil) != api.ErrNil {
		t.Error("Step of nil")
	}
	for _, err := range []error{errOf(none.Run(s, -1)), errOf(m.Run(nil, -1))} {
		if err != api.ErrNil {
			t.Errorf("%v", err)
		}
	}
	if n, err := m.Run(s, -1); n != 0 || err != api.ErrRange {
		t.Errorf("%d, %v", n, err)
	}
	for _, steps := range []int{0, 1, 1000} {
		if n, err := m.Run(s, steps); n != steps || err != nil || m.Halted {
			t.Errorf("%d, %v", n, err)
		}
	}
	m.Halted, m.Exit = true, 7
	before := *m
	if n, err := m.Run(s, 5); n != 0 || err != nil || *m != before || m.Step(s) != nil || *m != before {
		t.Errorf("a halted one: %d, %v", n, err)
	}
}

func errOf(n int, err error) error { return err }

// stepCase: a machine ahead of a step, and what becomes of it.
type stepCase struct {
	name   string
	word   uint64
	before func(m *Machine)
	after  func(m *Machine)
}

func checkSteps(t *testing.T, s *witness.Store, cases []stepCase) {
	t.Helper()
	for _, c := range cases {
		m := &Machine{Pc: 100}
		m.Memory[100] = c.word
		for i := range m.Registers {
			m.Registers[i] = uint64(1000 + i)
		}
		if c.before != nil {
			c.before(m)
		}
		want := m.Copy()
		want.Pc++
		c.after(want)
		if err := m.Step(s); err != nil || *m != *want {
			t.Errorf("%s: %v: Pc %d, halted %v, exit %d, registers %v", c.name, err, m.Pc, m.Halted, m.Exit, m.Registers)
		}
	}
}

func halted(exit uint64) func(m *Machine) {
	return func(m *Machine) { m.Halted, m.Exit = true, exit }
}

// wrong: it is halted where it stood.
func wrong(m *Machine) {
	m.Pc--
	m.Halted, m.Exit = true, api.Wrong
}

// P10.2: layer 1's operations, LI, HALT, LOAD and STORE.
func TestPlainSteps(t *testing.T) {
	s := witness.New()
	var cases []stepCase
	for op := 1; op <= 25; op++ {
		v, _ := word.Apply(op, 1004, 1005, 1006)
		cases = append(cases, stepCase{"word", code(t, op, 3, 4, 5, 6, 77), nil, func(m *Machine) { m.Registers[3] = v }})
	}
	cases = append(cases, []stepCase{
		{"halt", code(t, 0, 1, 9, 2, 3, 4), nil, halted(1009)},
		{"li", code(t, 26, 15, 0, 0, 0, -1<<31), nil, func(m *Machine) { m.Registers[15] = most - 1<<31 + 1 }},
		{"li", code(t, 26, 0, 0, 0, 0, 1<<31-1), nil, func(m *Machine) { m.Registers[0] = 1<<31 - 1 }},
		{"load", code(t, 27, 3, 4, 0, 0, -4), func(m *Machine) { m.Memory[1000] = 5 }, func(m *Machine) { m.Registers[3] = 5 }},
		{"load of the last", code(t, 27, 3, 0, 0, 0, 8191-1000), func(m *Machine) { m.Memory[8191] = 5 }, func(m *Machine) { m.Registers[3] = 5 }},
		{"load behind the last", code(t, 27, 3, 0, 0, 0, 8192-1000), nil, wrong},
		{"load ahead", code(t, 27, 3, 0, 0, 0, -1001), nil, wrong},
		{"load, wrapped", code(t, 27, 3, 4, 0, 0, 1), func(m *Machine) { m.Registers[4] = most; m.Memory[0] = 6 }, func(m *Machine) { m.Registers[3] = 6 }},
		{"store", code(t, 28, 3, 4, 5, 0, 2), nil, func(m *Machine) { m.Memory[1006] = 1005 }},
		{"store over itself", code(t, 28, 0, 0, 5, 0, -900), nil, func(m *Machine) { m.Memory[100] = 1005 }},
		{"store behind the last", code(t, 28, 0, 0, 5, 0, 8192-1000), nil, wrong},
		{"no operation", 36 << 56, nil, wrong},
		{"the byte", code(t, 26, 1, 0, 0, 0, 0) | 1<<32, nil, wrong},
		{"the byte", code(t, 0, 1, 0, 0, 0, 0) | 1<<39, nil, wrong},
	}...)
	checkSteps(t, s, cases)
	m := &Machine{Pc: 8192}
	if m.Step(s); !m.Halted || m.Exit != api.Wrong || m.Pc != 8192 {
		t.Errorf("behind the memory: %d, %d", m.Exit, m.Pc)
	}
	m = &Machine{Pc: 8191}
	m.Memory[8191] = code(t, 26, 1, 0, 0, 0, 1)
	if m.Step(s); m.Halted || m.Pc != 8192 {
		t.Errorf("the last place: %d, %d", m.Exit, m.Pc)
	}
}

// P10.2: jumps, taken and not, and where they may not go.
func TestJumpSteps(t *testing.T) {
	to := func(place uint64) func(m *Machine) { return func(m *Machine) { m.Pc = place } }
	same := func(m *Machine) {}
	noughts := func(m *Machine) { m.Registers[4] = 0 }
	checkSteps(t, witness.New(), []stepCase{
		{"jump", code(t, 29, 0, 0, 0, 0, 8191), nil, to(8191)}, {"jump", code(t, 29, 0, 0, 0, 0, 8192), nil, wrong}, {"jump", code(t, 29, 0, 0, 0, 0, -1), nil, wrong},
		{"jz", code(t, 30, 0, 4, 0, 0, 7), noughts, to(7)}, {"jz", code(t, 30, 0, 4, 0, 0, 7), nil, same},
		{"jz", code(t, 30, 0, 4, 0, 0, 9000), noughts, wrong}, {"jz", code(t, 30, 0, 4, 0, 0, 9000), nil, same},
		{"jnz", code(t, 31, 0, 4, 0, 0, 7), nil, to(7)}, {"jnz", code(t, 31, 0, 4, 0, 0, 7), noughts, same},
		{"jnz", code(t, 31, 0, 4, 0, 0, -5), nil, wrong}, {"jnz", code(t, 31, 0, 4, 0, 0, -5), noughts, same},
		{"jal", code(t, 32, 3, 0, 0, 0, 7), nil, func(m *Machine) { m.Registers[3], m.Pc = 101, 7 }},
		{"jal", code(t, 32, 3, 0, 0, 0, 8192), nil, wrong},
		{"jr", code(t, 33, 3, 4, 0, 0, 7), nil, to(1004)}, {"jr", code(t, 33, 3, 4, 0, 0, 7), noughts, to(0)},
		{"jr", code(t, 33, 0, 4, 0, 0, 0), func(m *Machine) { m.Registers[4] = 8192 }, wrong},
		{"jr", code(t, 33, 0, 4, 0, 0, 0), func(m *Machine) { m.Registers[4] = most }, wrong},
	})
}

func digestWordsOf(h api.Hash) (list [4]uint64) {
	for i, b := range h {
		list[i/8] = list[i/8]<<8 | uint64(b)
	}
	return list
}

// P10.2: HASH, within the memory, over itself, and beyond.
func TestHashSteps(t *testing.T) {
	s := witness.New()
	var p api.Pre
	for i := range p {
		p[i] = byte(3 * i)
	}
	lay := func(at int) func(m *Machine) {
		return func(m *Machine) {
			for i, b := range p {
				m.Memory[at+i/8] = m.Memory[at+i/8]<<8 | uint64(b)
			}
		}
	}
	digest := digestWordsOf(keccak.Sum(p[:]))
	both := func(a, b uint64, more func(m *Machine)) func(m *Machine) {
		return func(m *Machine) {
			m.Registers[4], m.Registers[5] = a, b
			if more != nil {
				more(m)
			}
		}
	}
	is := func(at int) func(m *Machine) { return func(m *Machine) { copy(m.Memory[at:], digest[:]) } }
	w := code(t, 34, 0, 4, 5, 0, 0)
	checkSteps(t, s, []stepCase{
		{"hash", w, both(500, 600, lay(500)), is(600)}, {"over itself", w, both(500, 502, lay(500)), is(502)},
		{"at the end", w, both(8184, 8188, lay(8184)), is(8188)},
		{"from beyond", w, both(8185, 600, nil), wrong}, {"to beyond", w, both(500, 8189, nil), wrong},
		{"from far", w, both(most, 600, nil), wrong}, {"to far", w, both(500, most-2, nil), wrong},
	})
	if got, err := s.Get(keccak.Sum(p[:])); got != p || err != nil || s.Len() != 17 {
		t.Errorf("not in the store: %v, %d", err, s.Len())
	}
}

// P10.2: PRE, with and without a preimage.
func TestPreSteps(t *testing.T) {
	s := witness.New()
	var p api.Pre
	for i := range p {
		p[i] = byte(5*i + 1)
	}
	h, _ := s.Add(p)
	digest := digestWordsOf(h)
	both := func(a, b uint64, known bool) func(m *Machine) {
		return func(m *Machine) {
			m.Registers[4], m.Registers[5] = a, b
			if known {
				copy(m.Memory[a:], digest[:])
			}
		}
	}
	is := func(at int) func(m *Machine) {
		return func(m *Machine) {
			first, second := digestWordsOf(api.Hash(p[:32])), digestWordsOf(api.Hash(p[32:]))
			copy(m.Memory[at:], first[:])
			copy(m.Memory[at+4:], second[:])
		}
	}
	missing := func(m *Machine) { m.Pc, m.Halted, m.Exit = m.Pc-1, true, api.Missing }
	w := code(t, 35, 0, 4, 5, 0, 0)
	checkSteps(t, s, []stepCase{
		{"pre", w, both(500, 600, true), is(600)}, {"over itself", w, both(500, 498, true), is(498)}, {"at the end", w, both(8188, 8184, true), is(8184)},
		{"missing", w, both(500, 600, false), missing}, {"missing and beyond", w, both(500, 8185, false), wrong},
		{"from beyond", w, both(8189, 600, false), wrong}, {"to beyond", w, both(500, 8185, true), wrong}, {"to far", w, both(500, most-6, true), wrong},
	})
	if asked := s.Asked(); len(asked) != 2 || asked[0] != h || asked[1] != (api.Hash{}) {
		t.Errorf("asked %x", asked)
	}
}

// P10.3: instructions and their parts, at all bounds.
func TestCodeAndParts(t *testing.T) {
	for _, x := range [][6]int64{{0, 0, 0, 0, 0, 0}, {35, 15, 14, 13, 12, -1}, {1, 2, 3, 4, 5, 1<<31 - 1}, {27, 0, 15, 0, 15, -1 << 31}} {
		w := code(t, int(x[0]), int(x[1]), int(x[2]), int(x[3]), int(x[4]), x[5])
		want := uint64(x[0])<<56 | uint64(x[1])<<52 | uint64(x[2])<<48 | uint64(x[3])<<44 | uint64(x[4])<<40 | uint64(x[5])&0xffffffff
		op, d, a, b, c, n, ok := Parts(w)
		if w != want || [6]int64{int64(op), int64(d), int64(a), int64(b), int64(c), n} != x || !ok {
			t.Errorf("%v: %x: %d %d %d %d %d %d %v", x, w, op, d, a, b, c, n, ok)
		}
	}
	for _, x := range [][6]int64{{-1}, {36}, {1, -1}, {1, 16}, {1, 0, -1}, {1, 0, 16}, {1, 0, 0, -1}, {1, 0, 0, 16}, {1, 0, 0, 0, -1}, {1, 0, 0, 0, 16}, {1, 0, 0, 0, 0, 1 << 31}, {1, 0, 0, 0, 0, -1<<31 - 1}} {
		if w, err := Code(int(x[0]), int(x[1]), int(x[2]), int(x[3]), int(x[4]), x[5]); w != 0 || err != api.ErrRange {
			t.Errorf("%v: %x, %v", x, w, err)
		}
	}
	for _, w := range []uint64{36 << 56, most, 255<<56 | 5, 1<<56 | 1<<32, 1<<56 | 1<<39} {
		op, d, a, b, c, n, ok := Parts(w)
		if op != 0 || d != 0 || a != 0 || b != 0 || c != 0 || n != 0 || ok {
			t.Errorf("%x: %d %d %d %d %d %d %v", w, op, d, a, b, c, n, ok)
		}
	}
}

func BenchmarkSteps(b *testing.B) {
	m := &Machine{}
	add, _ := Code(1, 1, 1, 2, 0, 0)
	back, _ := Code(29, 0, 0, 0, 0, 0)
	m.Memory[0], m.Memory[1] = add, back
	s := witness.New()
	for b.Loop() {
		m.Run(s, 1000)
	}
}
