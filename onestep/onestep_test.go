package onestep

import (
	"math/rand"
	"reflect"
	"strings"
	"testing"

	"moot/api"
	"moot/commit"
	"moot/vm"
	"moot/witness"
)

const most = 1<<64 - 1

func code(t *testing.T, op, d, a, b, c int, n int64) uint64 {
	t.Helper()
	w, err := vm.Code(op, d, a, b, c, n)
	if err != nil {
		t.Fatal(err)
	}
	return w
}

func of(m *vm.Machine) api.Hash {
	h, _ := commit.Of(m)
	return h
}

// checkStep: the proof of a machine's next step leads to the commitment behind it; machine and store stay. The proof.
func checkStep(t *testing.T, name string, m *vm.Machine, s *witness.Store) Step {
	t.Helper()
	before, n := m.Copy(), s.Len()
	p, err := Prove(m, s)
	if err != nil {
		t.Fatalf("%s: %v", name, err)
	}
	if *m != *before || s.Len() != n || len(s.Asked()) != 0 {
		t.Errorf("%s: machine or store has changed", name)
	}
	root, _ := commit.Root(m)
	head, _ := commit.HeadOf(m)
	if p.Root != root || p.Head != head {
		t.Errorf("%s: another root or head", name)
	}
	behind := m.Copy()
	behind.Step(s.Copy())
	if got, err := Verify(of(m), p); got != of(behind) || err != nil {
		t.Errorf("%s: %x, %v; exit %d", name, got, err, behind.Exit)
	}
	return p
}

type machineCase struct {
	name   string
	word   uint64
	proofs int
	lay    func(m *vm.Machine)
}

func cases(t *testing.T, known [4]uint64) []machineCase {
	both := func(a, b uint64) func(m *vm.Machine) {
		return func(m *vm.Machine) {
			m.Registers[4], m.Registers[5] = a, b
			if a < 8000 {
				copy(m.Memory[a:], known[:])
			}
		}
	}
	none := func(m *vm.Machine) {}
	hash, pre := code(t, 34, 0, 4, 5, 0, 0), code(t, 35, 0, 4, 5, 0, 0)
	return []machineCase{
		{"halt", code(t, 0, 0, 9, 0, 0, 0), 1, none}, {"add", code(t, 1, 1, 2, 3, 4, 0), 1, none}, {"mulmod", code(t, 9, 1, 2, 3, 4, 0), 1, none}, {"not", code(t, 25, 1, 2, 3, 4, 0), 1, none},
		{"li", code(t, 26, 1, 0, 0, 0, -5), 1, none}, {"load", code(t, 27, 1, 2, 0, 0, 3), 2, none}, {"load of itself", code(t, 27, 1, 2, 0, 0, -902), 2, none},
		{"load of the last", code(t, 27, 1, 2, 0, 0, 8191-1002), 2, none}, {"load behind the last", code(t, 27, 1, 2, 0, 0, 8192-1002), 1, none}, {"store behind the last", code(t, 28, 1, 2, 3, 0, 8192-1002), 1, none},
		{"load beyond", code(t, 27, 1, 2, 0, 0, 1<<20), 1, none}, {"load ahead", code(t, 27, 1, 2, 0, 0, -2000), 1, none},
		{"store", code(t, 28, 1, 2, 3, 0, 3), 2, none}, {"store over itself", code(t, 28, 0, 2, 3, 0, -902), 2, none}, {"store beyond", code(t, 28, 1, 2, 3, 0, 1<<20), 1, none},
		{"jump", code(t, 29, 0, 0, 0, 0, 8191), 1, none}, {"jump beyond", code(t, 29, 0, 0, 0, 0, 8192), 1, none}, {"jump ahead", code(t, 29, 0, 0, 0, 0, -1), 1, none},
		{"jz not taken", code(t, 30, 0, 2, 0, 0, 9000), 1, none}, {"jz", code(t, 30, 0, 0, 0, 0, 90), 1, none}, {"jz beyond", code(t, 30, 0, 0, 0, 0, 9000), 1, none},
		{"jnz", code(t, 31, 0, 2, 0, 0, 90), 1, none}, {"jnz not taken", code(t, 31, 0, 0, 0, 0, 9000), 1, none}, {"jnz beyond", code(t, 31, 0, 2, 0, 0, 9000), 1, none},
		{"jal", code(t, 32, 7, 0, 0, 0, 90), 1, none}, {"jal beyond", code(t, 32, 7, 0, 0, 0, 9000), 1, none}, {"jr", code(t, 33, 7, 2, 0, 0, 90), 1, none}, {"jr beyond", code(t, 33, 0, 15, 0, 0, 0), 1, func(m *vm.Machine) { m.Registers[15] = most }},
		{"hash", hash, 13, both(500, 600)}, {"hash over itself", hash, 13, both(500, 503)}, {"hash over the instruction", hash, 13, both(93, 99)}, {"hash beyond", hash, 1, both(8185, 600)}, {"hash to beyond", hash, 1, both(500, 8189)}, {"hash far", hash, 1, both(most, 5)}, {"hash at the end", hash, 13, both(8184, 8188)},
		{"pre", pre, 13, both(500, 600)}, {"pre over itself", pre, 13, both(500, 498)}, {"pre beyond", pre, 1, both(8189, 600)}, {"pre to beyond", pre, 1, both(500, 8185)}, {"pre to far", pre, 1, both(500, most)},
		{"no operation", 36 << 56, 1, none}, {"the byte", 1 << 35, 1, none}, {"behind the memory", 0, 0, func(m *vm.Machine) { m.Pc = 8192 }}, {"far behind", 0, 0, func(m *vm.Machine) { m.Pc = most }},
		{"halted", code(t, 1, 1, 2, 3, 4, 0), 0, func(m *vm.Machine) { m.Halted, m.Exit = true, 5 }},
	}
}

func prepared(c machineCase) *vm.Machine {
	m := &vm.Machine{Pc: 100}
	for i := range m.Memory {
		if i%7 == 0 {
			m.Memory[i] = uint64(i) * 0x10203
		}
	}
	for i := 1; i < 16; i++ {
		m.Registers[i] = uint64(1000 + i)
	}
	m.Memory[100] = c.word
	c.lay(m)
	return m
}

func knownPre(s *witness.Store) (words [4]uint64, p api.Pre) {
	for i := range p {
		p[i] = byte(3 * i)
	}
	h, _ := s.Add(p)
	for i, b := range h {
		words[i/8] = words[i/8]<<8 | uint64(b)
	}
	return words, p
}

// P15.1, P15.2: steps of all kinds, that do well and that go wrong.
func TestSteps(t *testing.T) {
	s := witness.New()
	words, pre := knownPre(s)
	for _, c := range cases(t, words) {
		p := checkStep(t, c.name, prepared(c), s)
		if len(p.Proofs) != c.proofs {
			t.Errorf("%s: %d proofs; want %d", c.name, len(p.Proofs), c.proofs)
		}
		want := api.Pre{}
		if strings.HasPrefix(c.name, "pre") && c.proofs == 13 {
			want = pre
		}
		if p.Pre != want {
			t.Errorf("%s: preimage %x", c.name, p.Pre)
		}
	}
}

// P15.1: the proofs are those of the accesses, in order, in the memory as it is then.
func TestProofsInOrder(t *testing.T) {
	s := witness.New()
	words, pre := knownPre(s)
	m := prepared(machineCase{word: code(t, 35, 0, 4, 5, 0, 0), lay: func(m *vm.Machine) {
		m.Registers[4], m.Registers[5] = 500, 498
		copy(m.Memory[500:], words[:])
	}})
	p, err := Prove(m, s)
	if err != nil {
		t.Fatal(err)
	}
	places := []uint64{100, 500, 501, 502, 503, 498, 499, 500, 501, 502, 503, 504, 505}
	now := m.Copy()
	for i, place := range places {
		want, _ := commit.Prove(now, place)
		if !reflect.DeepEqual(p.Proofs[i], want) {
			t.Errorf("proof %d is not of %d", i, place)
		}
		if i >= 5 {
			at := 8 * (i - 5)
			for j := range 8 {
				now.Memory[place] = now.Memory[place]<<8 | uint64(pre[at+j])
			}
		}
	}
}

// P15.1: who is nil, and what is missing.
func TestProveErrors(t *testing.T) {
	s := witness.New()
	m := &vm.Machine{}
	for _, f := range []func() (Step, error){func() (Step, error) { return Prove(nil, s) }, func() (Step, error) { return Prove(m, nil) }} {
		if p, err := f(); !reflect.DeepEqual(p, Step{}) || err != api.ErrNil {
			t.Errorf("%v", err)
		}
	}
	m.Memory[0] = code(t, 35, 0, 1, 2, 0, 0)
	m.Registers[1], m.Registers[2] = 50, 60
	if p, err := Prove(m, s); !reflect.DeepEqual(p, Step{}) || err != api.ErrMissing || len(s.Asked()) != 0 {
		t.Errorf("%v", err)
	}
	m.Registers[2] = 8190
	checkStep(t, "wrong ahead of missing", m, s)
}

func fails(t *testing.T, name string, claim api.Hash, p Step, want error) {
	t.Helper()
	if got, err := Verify(claim, p); got != (api.Hash{}) || err != want {
		t.Errorf("%s: %x, %v; want %v", name, got, err, want)
	}
}

func cloned(p Step) Step {
	q := p
	q.Proofs = append([]commit.Proof(nil), p.Proofs...)
	return q
}

// P15.2: whatever is changed in a proof is told; and nothing of it is changed by being checked.
func TestVerifyErrors(t *testing.T) {
	s := witness.New()
	words, _ := knownPre(s)
	for _, c := range cases(t, words) {
		m := prepared(c)
		claim := of(m)
		p, err := Prove(m, s)
		if err != nil {
			t.Fatal(err)
		}
		fails(t, c.name+": claim", api.Hash{1}, p, api.ErrProof)
		q := cloned(p)
		q.Root[3] ^= 1
		fails(t, c.name+": root", claim, q, api.ErrProof)
		q = cloned(p)
		q.Head.Registers[11]++
		fails(t, c.name+": head", claim, q, api.ErrProof)
		q = cloned(p)
		q.Proofs = append(q.Proofs, commit.Proof{Path: make([]api.Hash, 13)})
		fails(t, c.name+": one more", claim, q, api.ErrShape)
		for i := range p.Proofs {
			q = cloned(p)
			q.Proofs = q.Proofs[:i]
			fails(t, c.name+": too few", claim, q, api.ErrShape)
			q = cloned(p)
			q.Proofs[i].Path = q.Proofs[i].Path[:12]
			fails(t, c.name+": a short path", claim, q, api.ErrShape)
			q = cloned(p)
			q.Proofs[i].Value++
			fails(t, c.name+": another value", claim, q, api.ErrProof)
			q = cloned(p)
			q.Proofs[i].Path = append([]api.Hash(nil), q.Proofs[i].Path...)
			q.Proofs[i].Path[12][31] ^= 1
			fails(t, c.name+": another path", claim, q, api.ErrProof)
		}
		q = cloned(p)
		q.Pre[9] ^= 1
		if strings.HasPrefix(c.name, "pre") && c.proofs == 13 {
			fails(t, c.name+": another preimage", claim, q, api.ErrProof)
		} else if got, err := Verify(claim, q); err != nil || got == (api.Hash{}) {
			t.Errorf("%s: a preimage that is not asked for: %v", c.name, err)
		}
	}
}

// P15.2: behind the reads of a PRE its preimage is asked, ahead of its writes.
func TestVerifyOrder(t *testing.T) {
	s := witness.New()
	words, _ := knownPre(s)
	m := prepared(machineCase{word: code(t, 35, 0, 4, 5, 0, 0), lay: func(m *vm.Machine) {
		m.Registers[4], m.Registers[5] = 500, 600
		copy(m.Memory[500:], words[:])
	}})
	p, _ := Prove(m, s)
	p.Pre[0] ^= 1
	q := cloned(p)
	q.Proofs = q.Proofs[:4]
	fails(t, "a read is missing", of(m), q, api.ErrShape)
	q.Proofs = p.Proofs[:5]
	fails(t, "the preimage", of(m), q, api.ErrProof)
	p.Pre[0] ^= 1
	q = cloned(p)
	q.Proofs = q.Proofs[:5]
	fails(t, "a write is missing", of(m), q, api.ErrShape)
	q = cloned(p)
	q.Proofs[3].Value++
	q.Proofs[2].Path = nil
	fails(t, "the first one of two", of(m), q, api.ErrShape)
}

// P15: the document's examples.
func TestExamples(t *testing.T) {
	s, m := witness.New(), &vm.Machine{}
	p := checkStep(t, "new", m, s)
	if len(p.Proofs) != 1 || p.Proofs[0].Value != 0 {
		t.Errorf("%d proofs", len(p.Proofs))
	}
	m.Step(s)
	p = checkStep(t, "halted", m, s)
	if got, _ := Verify(of(m), p); len(p.Proofs) != 0 || got != of(m) {
		t.Errorf("%d proofs", len(p.Proofs))
	}
}

// P15: step after step of a program, and machines of words at random.
func TestTraces(t *testing.T) {
	s := witness.New()
	m, _ := vm.Load([]uint64{code(t, 26, 1, 0, 0, 0, 500), code(t, 26, 2, 0, 0, 0, 600), code(t, 26, 3, 0, 0, 0, 2), code(t, 34, 0, 1, 2, 0, 0), code(t, 35, 0, 2, 1, 0, 0),
		code(t, 28, 0, 1, 3, 0, 0), code(t, 26, 4, 0, 0, 0, 1), code(t, 2, 3, 3, 4, 0, 0), code(t, 31, 0, 3, 0, 0, 3), code(t, 33, 0, 3, 0, 0, 0)})
	for range 25 {
		checkStep(t, "program", m, s)
		m.Step(s)
		s.Asked()
	}
	r := rand.New(rand.NewSource(15))
	for range 60 {
		m := &vm.Machine{Pc: uint64(r.Intn(60))}
		for i := range 64 {
			m.Memory[i] = uint64(r.Intn(37))<<56 | r.Uint64()>>8&^(255<<32)
			if r.Intn(2) == 0 {
				m.Memory[i] &^= 0xffffff00
			}
		}
		for i := range m.Registers {
			m.Registers[i] = []uint64{0, 5, 60, 8184, 8191, 8192, most}[r.Intn(7)]
		}
		for range 3 {
			if _, err := Prove(m, s); err == api.ErrMissing {
				break
			}
			checkStep(t, "random", m, s)
			m.Step(s)
			s.Asked()
		}
	}
}

func BenchmarkProvePre(b *testing.B) {
	s := witness.New()
	words, _ := knownPre(s)
	m := &vm.Machine{}
	m.Memory[0], _ = vm.Code(35, 0, 1, 2, 0, 0)
	for i := range m.Memory[1:] {
		m.Memory[i+1] = uint64(i)
	}
	m.Registers[1], m.Registers[2] = 500, 600
	copy(m.Memory[500:], words[:])
	for b.Loop() {
		Prove(m, s)
	}
}
