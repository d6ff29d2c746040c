package client

import (
	"errors"
	"math/rand"
	"testing"

	"moot/api"
	"moot/ir"
	"moot/keccak"
	"moot/lower"
	"moot/merkle"
	"moot/state"
	"moot/stf"
	"moot/tx"
	"moot/witness"
)

func zero(h int) api.Hash {
	nought, _ := merkle.Zero(h)
	return nought
}

func empty(t *testing.T) (*witness.Store, *state.State) {
	t.Helper()
	s := witness.New()
	x, err := state.New(s, zero(api.StateDepth))
	if err != nil {
		t.Fatal(err)
	}
	return s, x
}

// run: the client with a store; its exit, its output, its steps.
func run(t *testing.T, s *witness.Store, root, out, batch api.Hash) (uint64, api.Hash, int) {
	t.Helper()
	m, err := Start(root, out, batch)
	if err != nil {
		t.Fatal(err)
	}
	n, err := m.Run(s, api.ClientSteps)
	if err != nil || !m.Halted {
		t.Fatalf("not halted behind %d steps, %v", n, err)
	}
	exit, output, err := Result(m)
	if err != nil {
		t.Fatal(err)
	}
	return exit, output, n
}

func commitment(t *testing.T, list []api.Tx) api.Hash {
	t.Helper()
	h, err := tx.Commit(list)
	if err != nil {
		t.Fatal(err)
	}
	return h
}

// agree: the client and the native transition, with all that is needed. How many steps it took.
func agree(t *testing.T, s *witness.Store, root, out api.Hash, list []api.Tx) int {
	t.Helper()
	lent := s.Copy()
	batch, err := Lend(lent, list)
	if batch != commitment(t, list) || err != nil {
		t.Fatalf("Lend: %x, %v", batch, err)
	}
	want, wantErr := stf.Apply(s.Copy(), root, out, list)
	exit, output, n := run(t, lent, root, out, batch)
	switch {
	case wantErr == nil:
		if exit != 0 || output != want.Output {
			t.Fatalf("%+v: exit %d, %x; want %+v", list, exit, output, want)
		}
	case errors.Is(wantErr, api.ErrForm):
		if exit != api.ClientBad || output != (api.Hash{}) {
			t.Fatalf("%+v: exit %d; want %v", list, exit, wantErr)
		}
	default:
		if exit != api.Missing || output != (api.Hash{}) {
			t.Fatalf("%+v: exit %d; want %v", list, exit, wantErr)
		}
	}
	return n
}

// P14.1: the program may be, and there is room for it.
func TestProgram(t *testing.T) {
	p := Program()
	if err := ir.Check(p); err != nil {
		t.Fatal(err)
	}
	x, err := lower.Compile(p)
	if err != nil {
		t.Fatal(err)
	}
	t.Logf("%d words", len(x.Words))
}

// P14.1: no two lists of the program share memory, nor do two programs.
func TestProgramMemory(t *testing.T) {
	exprs, stmts := map[*api.Expr]int{}, map[*api.Stmt]int{}
	var walkExpr func(x api.Expr)
	var walk func(list []api.Stmt)
	walkExpr = func(x api.Expr) {
		for i := range x.Args {
			exprs[&x.Args[i]]++
			walkExpr(x.Args[i])
		}
	}
	walk = func(list []api.Stmt) {
		for i := range list {
			stmts[&list[i]]++
			walkExpr(list[i].A)
			walkExpr(list[i].B)
			walk(list[i].Body)
			walk(list[i].Else)
		}
	}
	for range 2 {
		for _, f := range Program() {
			walk(f.Body)
		}
	}
	for _, n := range exprs {
		if n > 1 {
			t.Fatal("expressions are shared")
		}
	}
	for _, n := range stmts {
		if n > 1 {
			t.Fatal("statements are shared")
		}
	}
}

// P14.1: the input's words.
func TestInput(t *testing.T) {
	root, out, batch := api.Hash{7: 1, 15: 2}, api.Hash{31: 3}, api.Hash{0: 1, 30: 4}
	got := Input(root, out, batch)
	want := []uint64{1, 2, 0, 0, 0, 0, 0, 3, 1 << 56, 0, 0, 4 << 8}
	if len(got) != 12 {
		t.Fatalf("%v", got)
	}
	for i := range want {
		if got[i] != want[i] {
			t.Errorf("%v", got)
		}
	}
}

// P14: the document's example, and the first one of the whole.
func TestExamples(t *testing.T) {
	s, x := empty(t)
	batch, _ := Lend(s, nil)
	exit, output, _ := run(t, s, zero(11), api.Hash{}, batch)
	if exit != 0 || output != keccak.Pair(zero(11), api.Hash{}) {
		t.Errorf("%d, %x", exit, output)
	}
	x.Set(1, 0, 500)
	x.SetCode(2, []byte{46, 51})
	n := agree(t, s, x.Root(), api.Hash{5}, []api.Tx{{From: 1, To: 2, Value: 3, Gas: 50, Data: 7}})
	t.Logf("%d steps", n)
}

// randomCode: mostly of operations that may be.
func randomCode(r *rand.Rand) []byte {
	var code []byte
	for len(code) < 60 && r.Intn(30) > 0 {
		switch r.Intn(14) {
		case 0:
			code = append(code, byte(r.Intn(256)))
		case 1:
			code = append(code, byte(1+r.Intn(25)))
		case 2, 3, 4:
			code = append(code, 32, byte(r.Intn(12)))
		case 5:
			code = append(code, 33)
			for range 8 {
				code = append(code, byte(r.Intn(256)))
			}
		case 6:
			code = append(code, 35, byte(r.Intn(5)))
		case 7:
			code = append(code, 36, byte(r.Intn(5)))
		case 8:
			code = append(code, 43)
		case 9:
			code = append(code, 32, byte(r.Intn(20)), 32, byte(r.Intn(3)), 32, byte(r.Intn(20)), 32, byte(r.Intn(7)), 52)
		case 10:
			code = append(code, 32, byte(r.Intn(60)), 41+byte(r.Intn(2)))
		default:
			code = append(code, byte(32+r.Intn(24)))
		}
	}
	return code[:min(len(code), 64)]
}

func randomTxs(r *rand.Rand, nonces map[uint64]uint64) []api.Tx {
	var list []api.Tx
	for range r.Intn(9) {
		from := uint64(r.Intn(8))
		y := api.Tx{From: from, To: uint64(r.Intn(8)), Nonce: nonces[from], Value: uint64(r.Intn(30)), Gas: uint64(r.Intn(97)), Data: uint64(r.Intn(50))}
		if r.Intn(12) == 0 {
			y.Nonce++
		} else {
			nonces[from]++
		}
		if r.Intn(20) == 0 {
			y.Value = 1<<64 - 1 - uint64(r.Intn(40))
		}
		list = append(list, y)
	}
	return list
}

// randomState: some accounts with codes, balances near nothing and near all, storage, and sometimes what has no form.
func randomState(t *testing.T, r *rand.Rand) (*witness.Store, api.Hash) {
	t.Helper()
	s, x := empty(t)
	for a := range uint64(8) {
		balance := uint64(r.Intn(400))
		if r.Intn(10) == 0 {
			balance = 1<<64 - 1 - balance
		}
		x.Set(a, 0, balance)
		if r.Intn(4) > 0 {
			x.SetCode(a, randomCode(r))
		}
		x.Set(a, uint64(24+r.Intn(8)), r.Uint64())
	}
	root := x.Root()
	if r.Intn(6) == 0 {
		leaf := api.Hash{31: 1}
		leaf[r.Intn(24)] = 1
		root, _ = s.Write(api.StateDepth, root, r.Intn(8)*32+[]int{0, 1, 2, 16, 17, 24, 25}[r.Intn(7)], leaf)
	}
	if r.Intn(8) == 0 {
		y, _ := state.New(s, root)
		y.Set(uint64(r.Intn(8)), 2, uint64(r.Intn(80)))
		root = y.Root()
	}
	return s, root
}

// P14, P4: one meaning, whatever the accounts, their codes, the transactions.
func TestRandomBatches(t *testing.T) {
	most := 0
	for seed := range int64(600) {
		r := rand.New(rand.NewSource(seed))
		s, root := randomState(t, r)
		most = max(most, agree(t, s, root, api.Hash{byte(seed)}, randomTxs(r, map[uint64]uint64{})))
	}
	t.Logf("%d steps at most", most)
}

func push8(v uint64) []byte {
	b := []byte{33}
	for i := 7; i >= 0; i-- {
		b = append(b, byte(v>>(8*i)))
	}
	return b
}

func join(parts ...[]byte) []byte {
	var all []byte
	for _, p := range parts {
		all = append(all, p...)
	}
	return all
}

// agreeOn: one transaction to account 2, with codes of some accounts, each of which has 1000.
func agreeOn(t *testing.T, codes map[uint64][]byte) {
	t.Helper()
	s, x := empty(t)
	for a := range uint64(8) {
		x.Set(a, 0, 1000)
		if err := x.SetCode(a, codes[a]); err != nil {
			t.Fatal(err)
		}
	}
	for _, gas := range []uint64{96, 40, 20} {
		agree(t, s, x.Root(), api.Hash{}, []api.Tx{{From: 1, To: 2, Value: 7, Gas: gas, Data: 5}, {From: 1, To: 2, Nonce: 1, Gas: gas}})
	}
}

// P14: each of layer 1's operations, whose words go into the outbox.
func TestWordOperations(t *testing.T) {
	for op := byte(1); op <= 25; op++ {
		for _, v := range [][3]uint64{{1<<64 - 7, 5, 13}, {3, 1 << 63, 7}, {2, 0x0102030405060708, 0}, {0, 0, 1}, {7, 1<<64 - 1, 1 << 40}, {64, 1<<64 - 1, 2}} {
			agreeOn(t, map[uint64][]byte{2: join(push8(v[2]), push8(v[1]), push8(v[0]), []byte{op, 51})})
		}
	}
}

// P14: jumps to operations and to what stands behind them; codes whose last word or last operation reaches behind their end.
func TestJumps(t *testing.T) {
	behind := [][]byte{{32, 43}, {33, 43, 43, 43, 43, 43, 43, 43, 43}, {35, 43}, {36, 43}, {34, 43}, {99, 43}, {43, 43}, {31, 43}}
	for _, b := range behind {
		for to := byte(3); to < 14; to++ {
			code := join([]byte{32, to, 41}, b, []byte{43, 32, 9, 51})
			agreeOn(t, map[uint64][]byte{2: code})
			agreeOn(t, map[uint64][]byte{2: {32, 40, 32, 5, 32, 0, 32, 3, 52, 51}, 3: code})
			agreeOn(t, map[uint64][]byte{2: join([]byte{46, 32, to, 42}, b, []byte{43, 32, 9, 51})})
		}
	}
	for n := range 10 {
		agreeOn(t, map[uint64][]byte{2: join([]byte{32, 0, 39, 51}, push8(1 << 40)[:n])})
		s, x := empty(t)
		x.Set(1, 0, 1000)
		x.SetCode(2, join([]byte{43, 43, 43, 43, 43, 43, 32, 8, 51, 43, 43, 43, 43, 43, 32, 41}))
		x.Set(2, 2, uint64(6+n))
		agree(t, s, x.Root(), api.Hash{}, []api.Tx{{From: 1, To: 2, Gas: 96}})
	}
	agreeOn(t, map[uint64][]byte{2: join([]byte{32, 63, 41}, make([]byte, 60), []byte{43})})
}

// P14: calls within calls down to the deepest frame, each of which may be done, fail or revert behind a change.
func TestNestedCalls(t *testing.T) {
	change := func(n byte) []byte { return []byte{32, n, 32, 1, 40} }
	deeper := func(to byte) []byte { return []byte{32, 90, 32, 4, 32, 3, 32, to, 52, 53} }
	for mask := range 81 {
		codes := map[uint64][]byte{}
		left := mask
		for depth := range byte(4) {
			end := [][]byte{{54}, {55}, {26}}[left%3]
			left /= 3
			code := []byte{44, 51, 32, 1}
			if depth < 3 {
				code = deeper(depth + 3)
			} else if mask%2 == 0 {
				code = join(change(9), []byte{32, 1})
			}
			codes[uint64(depth+2)] = join(code, end)
		}
		agreeOn(t, codes)
	}
	agreeOn(t, map[uint64][]byte{2: join(change(1), []byte{32, 1, 51}, deeper(3), []byte{51}), 3: join(change(2), []byte{45, 51, 46, 55})})
	agreeOn(t, map[uint64][]byte{2: join([]byte{32, 7, 32, 3, 38}, deeper(3), []byte{32, 3, 37, 51, 51}), 3: []byte{32, 3, 37, 51, 32, 8, 32, 3, 38, 47, 54}})
	agreeOn(t, map[uint64][]byte{2: join(deeper(2), []byte{1, 51})})
}

// without: a copy of a store that lacks some digests.
func without(s *witness.Store, list ...api.Hash) *witness.Store {
	c := s.Copy()
	for _, h := range list {
		c.Drop(h)
	}
	return c
}

// P14: with just what was asked for there is an output; without any one of it there is it, or what is missing is told; never another one.
func TestMissing(t *testing.T) {
	kept := 0
	for seed := range int64(25) {
		r := rand.New(rand.NewSource(seed))
		s, root := randomState(t, r)
		list := randomTxs(r, map[uint64]uint64{})
		batch, _ := Lend(s, list)
		asker := s.Copy()
		want, wantErr := stf.Apply(asker, root, api.Hash{}, list)
		asked := asker.Asked()
		if wantErr == nil {
			exit, output, _ := run(t, only(t, s, asked, list), root, api.Hash{}, batch)
			if exit != 0 || output != want.Output {
				t.Fatalf("%d: exit %d with all that was asked for", seed, exit)
			}
		}
		for range 40 {
			lacks := []api.Hash{zero(1 + r.Intn(11))}
			if len(asked) > 0 && r.Intn(6) > 0 {
				lacks = append(lacks[:r.Intn(2)], asked[r.Intn(len(asked))])
			}
			less := without(s, lacks...)
			Lend(less, list)
			native, nativeErr := stf.Apply(less.Copy(), root, api.Hash{}, list)
			exit, output, _ := run(t, less.Copy(), root, api.Hash{}, batch)
			ok := exit == api.Missing
			if nativeErr == nil {
				ok = exit == 0 && output == native.Output
				kept++
			} else if errors.Is(nativeErr, api.ErrForm) {
				ok = ok || exit == api.ClientBad
			}
			if !ok || exit == 0 && (wantErr != nil || output != want.Output) {
				t.Fatalf("%d: exit %d without %x; native %v", seed, exit, lacks, nativeErr)
			}
		}
	}
	if kept < 10 {
		t.Errorf("only %d had an output", kept)
	}
}

// only: a store that has of another one just what was asked for, and the list's preimages.
func only(t *testing.T, s *witness.Store, asked []api.Hash, list []api.Tx) *witness.Store {
	t.Helper()
	c := witness.New()
	for h := 1; h <= 16; h++ {
		c.Drop(zero(h))
	}
	for _, h := range asked {
		if p, err := s.Get(h); err == nil {
			c.Add(p)
		}
	}
	if _, err := Lend(c, list); err != nil {
		t.Fatal(err)
	}
	return c
}

// listDigests: those of all preimages of a list's commitment, the records' first.
func listDigests(list []api.Tx) []api.Hash {
	var all, row []api.Hash
	for i := range 8 {
		p := api.Pre{}
		if i < len(list) {
			p = tx.Record(list[i])
		}
		row = append(row, keccak.Sum(p[:]))
	}
	for len(row) > 1 {
		all = append(all, row...)
		var next []api.Hash
		for i := 0; i < len(row); i += 2 {
			next = append(next, keccak.Pair(row[i], row[i+1]))
		}
		row = next
	}
	return append(all, row...)
}

// P14.2: what is lent, and what a client does without it.
func TestLend(t *testing.T) {
	s, x := empty(t)
	for a := range uint64(64) {
		x.Set(a, 0, 100)
	}
	var list []api.Tx
	for i := range uint64(8) {
		list = append(list, api.Tx{From: i, To: i + 9, Value: 1, Gas: 10})
		n := s.Len()
		lent := s.Copy()
		batch, err := Lend(lent, list)
		digests := listDigests(list)
		if err != nil || batch != digests[14] || batch != commitment(t, list) {
			t.Fatalf("%x, %v", batch, err)
		}
		fresh := map[api.Hash]int{}
		for _, h := range digests {
			if _, err := lent.Get(h); err != nil {
				t.Errorf("%d: %x is not there", i, h)
			}
			if _, err := s.Get(h); err != nil {
				fresh[h]++
			}
		}
		if lent.Len() != n+len(fresh) {
			t.Errorf("%d: %d more; want %d", i, lent.Len()-n, len(fresh))
		}
		for h := range fresh {
			if exit, output, _ := run(t, without(lent, h), x.Root(), api.Hash{}, batch); exit != api.Missing || output != (api.Hash{}) {
				t.Errorf("%d without %x: %d", i, h, exit)
			}
		}
	}
	if h, err := Lend(nil, make([]api.Tx, 9)); h != (api.Hash{}) || err != api.ErrNil {
		t.Errorf("%x, %v", h, err)
	}
	n := s.Len()
	if h, err := Lend(s, make([]api.Tx, 9)); h != (api.Hash{}) || err != api.ErrFull || s.Len() != n {
		t.Errorf("%x, %v", h, err)
	}
	// What is not right is lent, too; the client comes to an end with it.
	wrong := []api.Tx{{From: 64, Gas: 1 << 60}, {From: 1, To: 1 << 63}, {From: 1, To: 2, Gas: 97}}
	for i := range wrong {
		h, err := Lend(s, wrong[i:])
		if h != commitment(t, wrong[i:]) || err != nil {
			t.Errorf("%x, %v", h, err)
		}
		if exit, _, n := run(t, s, x.Root(), api.Hash{}, h); exit == 0 || n > 2000 {
			t.Errorf("exit %d behind %d steps", exit, n)
		}
	}
}

// P14.2, P14.3: machines at their beginning, halted, and those that have no output.
func TestStartAndResult(t *testing.T) {
	root, out, batch := api.Hash{1}, api.Hash{2}, api.Hash{3}
	m, err := Start(root, out, batch)
	if err != nil {
		t.Fatal(err)
	}
	x, _ := lower.Compile(Program())
	want, _ := lower.Machine(x, Input(root, out, batch))
	if *m != *want {
		t.Error("another machine")
	}
	if exit, h, err := Result(m); exit != 0 || h != (api.Hash{}) || err != api.ErrOpen {
		t.Errorf("%d, %x, %v", exit, h, err)
	}
	if exit, h, err := Result(nil); exit != 0 || h != (api.Hash{}) || err != api.ErrNil {
		t.Errorf("%d, %x, %v", exit, h, err)
	}
	m.Memory[x.Base+24], m.Memory[x.Base+27] = 1<<56, 5
	m.Halted, m.Exit = true, 0
	if exit, h, err := Result(m); exit != 0 || h != (api.Hash{0: 1, 31: 5}) || err != nil {
		t.Errorf("%d, %x, %v", exit, h, err)
	}
	for _, e := range []uint64{api.ClientBad, api.Missing, api.Wrong} {
		m.Exit = e
		if exit, h, err := Result(m); exit != e || h != (api.Hash{}) || err != nil {
			t.Errorf("%d, %x, %v", exit, h, err)
		}
	}
}

// P14: the longest ways that account code can go stay far within the bound.
func TestSteps(t *testing.T) {
	pad := func(code ...byte) []byte {
		for len(code) < 64 {
			code = append(code, 43)
		}
		return code
	}
	round := func(body ...byte) []byte { return pad(append(append([]byte{43}, body...), 32, 0, 41)...) }
	calls := func(to, gas byte) []byte { return []byte{32, gas, 32, 0, 32, 1, 32, to, 52, 34} }
	// As many calls as the gas is enough for: each one takes what the one ahead of it has put.
	line := []byte{32, 1, 32, 0, 32, 1, 32, 3, 52}
	for len(line) < 58 {
		line = append(line, 32, 0, 32, 1, 32, 3, 52)
	}
	codes := map[string][]byte{
		"calls in line": line,
		"calls":         round(append([]byte{32, 0, 32, 0, 32, 0, 32, 2, 52}, []byte{36, 1}...)...),
		"calls round":   round(calls(3, 0)...),
		"calls on":      round(calls(3, 90)...),
		"refused calls": round(32, 0, 32, 0, 33, 255, 255, 255, 255, 255, 255, 255, 255, 32, 3, 52, 34),
		"loads":         round(32, 1, 39, 34),
		"stores":        round(35, 0, 32, 1, 40),
		"stores 2":      round(32, 7, 32, 1, 40),
		"balances":      round(32, 1, 49, 34),
		"hashes":        round(32, 1, 35, 0, 50, 34),
		"messages":      round(32, 1, 51),
		"pushes":        round(33, 1, 2, 3, 4, 5, 6, 7, 8, 34),
		"told":          round(44, 34),
		"words":         round(32, 3, 32, 2, 32, 1, 9, 34),
	}
	for name, code := range codes {
		for _, other := range [][]byte{pad(), round(), pad(32, 0, 41), pad(26), pad(0)} {
			s, x := empty(t)
			for a := range uint64(8) {
				x.Set(a, 0, 1<<40)
			}
			x.SetCode(2, code)
			x.SetCode(3, other)
			var list []api.Tx
			for i := range uint64(8) {
				list = append(list, api.Tx{From: 1, To: 2, Nonce: i, Value: 7, Gas: 96})
			}
			if n := agree(t, s, x.Root(), api.Hash{}, list); n > api.ClientSteps/2 {
				t.Errorf("%s: %d steps", name, n)
			} else {
				t.Logf("%s: %d steps", name, n)
			}
		}
	}
}
