package lower

import (
	"math/rand"
	"reflect"
	"testing"

	"moot/api"
	"moot/ir"
	"moot/vm"
	"moot/witness"
)

const ones = 1<<64 - 1

func num(v uint64) api.Expr                   { return api.Expr{Op: 26, N: v} }
func local(n uint64) api.Expr                 { return api.Expr{Op: 27, N: n} }
func op(n int, args ...api.Expr) api.Expr     { return api.Expr{Op: n, Args: args} }
func load(x api.Expr) api.Expr                { return op(28, x) }
func invoke(n int, args ...api.Expr) api.Expr { return api.Expr{Op: 29, N: uint64(n), Args: args} }
func set(n int, a api.Expr) api.Stmt          { return api.Stmt{Kind: 1, N: n, A: a} }
func store(a, b api.Expr) api.Stmt            { return api.Stmt{Kind: 2, A: a, B: b} }
func ret(a api.Expr) api.Stmt                 { return api.Stmt{Kind: 5, A: a} }
func do(a api.Expr) api.Stmt                  { return api.Stmt{Kind: 6, A: a} }
func halt(a api.Expr) api.Stmt                { return api.Stmt{Kind: 7, A: a} }

func either(a api.Expr, body, other []api.Stmt) api.Stmt {
	return api.Stmt{Kind: 3, A: a, Body: body, Else: other}
}
func while(a api.Expr, body ...api.Stmt) api.Stmt { return api.Stmt{Kind: 4, A: a, Body: body} }

func program(locals int, body ...api.Stmt) []api.Func {
	return []api.Func{{Locals: locals, Body: body}}
}

// agree: do the program and its image come to the same? The exit.
func agree(t *testing.T, p []api.Func, data []uint64, s *witness.Store) uint64 {
	t.Helper()
	mine := s.Copy()
	want, err := ir.Eval(p, data, s.Copy(), 200000)
	if err != nil {
		t.Fatalf("Eval: %v", err)
	}
	x, err := Compile(p)
	if err != nil {
		t.Fatalf("Compile: %v", err)
	}
	m, err := Machine(x, data)
	if err != nil {
		t.Fatalf("Machine: %v", err)
	}
	n, err := m.Run(mine, 100*(want.Used+1))
	if err != nil || !m.Halted || m.Exit != want.Exit {
		t.Fatalf("%+v: halted %v behind %d steps of %d used, exit %d, %v; want %d", p, m.Halted, n, want.Used, m.Exit, err, want.Exit)
	}
	if got, err := Data(x, m); !reflect.DeepEqual(got, want.Data) || err != nil {
		t.Fatalf("%+v: another memory, %v", p, err)
	}
	return m.Exit
}

// P13.1: the document's examples.
func TestExamples(t *testing.T) {
	sum := program(2, set(1, num(5)), while(local(1), set(0, op(1, local(0), local(1))), set(1, op(2, local(1), num(1)))), ret(local(0)))
	if exit := agree(t, sum, nil, witness.New()); exit != 15 {
		t.Errorf("%d", exit)
	}
	if exit := agree(t, program(0, halt(num(ones))), nil, witness.New()); exit != ones {
		t.Errorf("%d", exit)
	}
}

// P13.1: places within the memory and beyond, constants and worked out, also those that would meet the machine's other words.
func TestPlaces(t *testing.T) {
	s := witness.New()
	edges := []uint64{0, 1, 2039, 2040, 2041, 2044, 2045, 2047, 2048, 4096, 6143, 6144, 8191, 8192, 1<<30 - 1, 1 << 30, 1 << 31, 1 << 32, 1 << 63, ones - 8191, ones - 6144, ones - 6143, ones - 6142, ones - 4096, ones - 2047, ones - 1, ones}
	data := make([]uint64, 2048)
	for i := range data {
		data[i] = uint64(i) + 7
	}
	for _, v := range edges {
		for _, off := range []uint64{0, 1, 5, 2047, 6144, ones, ones - 6143, 1 << 40} {
			places := []api.Expr{op(22, local(0), num(off)), op(1, op(22, local(0), num(off)), num(v)), op(1, op(22, local(0), num(2047)), num(off)), num(v), op(1, num(v), num(off)), op(2, num(v), num(off)), op(1, local(0), num(off)), op(2, local(0), num(off)), op(1, num(off), local(0)), local(0)}
			for _, at := range places {
				agree(t, program(1, set(0, num(v)), ret(load(at))), data, s)
				agree(t, program(1, set(0, num(v)), store(at, num(9)), ret(num(1))), data, s)
				agree(t, program(1, set(0, num(v)), ret(op(30, at, num(100)))), data, s)
				agree(t, program(1, set(0, num(v)), ret(op(30, num(100), at))), data, s)
				agree(t, program(1, set(0, num(v)), ret(op(31, at, num(100)))), data, s)
				agree(t, program(1, set(0, num(v)), do(op(30, num(0), num(200))), ret(op(31, num(200), at))), data, s)
				agree(t, program(1, set(0, num(v)), ret(op(30, at, op(1, local(0), num(3))))), data, s)
			}
		}
	}
}

// P13.1: every operation, with noughts and great numbers.
func TestOperations(t *testing.T) {
	values := []uint64{0, 1, 7, 64, 1<<31 - 1, 1 << 31, 1<<63 + 5, ones - 1<<31 + 1, ones - 1<<31, ones}
	for o := 1; o <= 25; o++ {
		n := 2
		if o == 8 || o == 9 {
			n = 3
		} else if o == 21 || o == 25 {
			n = 1
		}
		for _, a := range values {
			for _, b := range values {
				agree(t, program(0, ret(op(o, []api.Expr{num(a), num(b), num(13)}[:n]...))), nil, witness.New())
			}
		}
	}
}

// P13.1: calls within calls, and values that wait for them.
func TestCalls(t *testing.T) {
	f := api.Func{Params: 2, Locals: 4, Body: []api.Stmt{set(2, op(1, local(2), num(1))), set(3, op(3, local(0), num(10))), ret(op(1, local(3), op(1, local(1), local(2))))}}
	g := api.Func{Params: 3, Locals: 3, Body: []api.Stmt{ret(op(8, local(0), invoke(2, local(1), local(2)), num(1000003)))}}
	deep := num(1)
	for i := range 5 {
		deep = op(8, local(0), invoke(2, num(uint64(i)), local(1)), deep)
	}
	for _, x := range []api.Expr{
		invoke(2, invoke(2, num(1), num(2)), invoke(2, num(3), invoke(2, num(4), num(5)))),
		op(9, invoke(2, num(1), num(2)), local(0), invoke(1, num(3), num(4), invoke(2, num(0), num(5)))),
		op(1, local(0), op(3, local(1), invoke(1, local(0), local(1), num(0)))), deep,
		invoke(1, num(0), num(0), num(0)), op(1, num(0), invoke(2, num(0), num(0))), op(21, invoke(2, num(0), num(0))),
	} {
		agree(t, []api.Func{{Locals: 2, Body: []api.Stmt{set(0, num(77)), set(1, num(99)), store(invoke(2, num(2), num(3)), op(1, num(3), x)), ret(x)}}, g, f}, nil, witness.New())
	}
	// All 24 parameters, each of which waits for a call.
	var args []api.Expr
	sum := num(0)
	wide := api.Func{Params: 24, Locals: 24}
	for i := range 24 {
		args = append(args, invoke(2, num(uint64(i)), num(1)))
		wide.Body = append(wide.Body, store(num(uint64(i)), local(uint64(i))))
	}
	agree(t, []api.Func{{Body: []api.Stmt{ret(invoke(1, args...)), ret(sum)}}, wide, f}, nil, witness.New())
}

// P13.1: functions that end on one side only, or on none.
func TestEnds(t *testing.T) {
	five, seven := []api.Stmt{ret(num(5))}, []api.Stmt{halt(num(7))}
	on := []api.Stmt{set(1, num(3))}
	ends := [][]api.Stmt{nil, five, seven, on, {either(local(0), five, on)}, {either(local(0), on, seven)}, {either(local(0), five, seven)}, {either(local(0), nil, five)}, {while(local(0), five...)}, {while(local(0), seven...)}}
	for _, a := range ends {
		for _, b := range ends {
			for cond := range uint64(2) {
				f := api.Func{Params: 1, Locals: 2, Body: []api.Stmt{either(local(0), a, b)}}
				g := api.Func{Params: 1, Locals: 2, Body: append([]api.Stmt{either(local(0), b, a)}, a...)}
				last := api.Func{Body: []api.Stmt{halt(num(99))}}
				agree(t, []api.Func{{Body: []api.Stmt{ret(op(1, invoke(1, num(cond)), op(3, num(10), invoke(2, num(cond)))))}}, f, g, last}, nil, witness.New())
				agree(t, []api.Func{{Locals: 2, Body: append([]api.Stmt{set(0, num(cond))}, f.Body...)}, last}, nil, witness.New())
			}
		}
	}
}

// P13.1: the deepest expressions, leaning to each side.
func TestDeepExpressions(t *testing.T) {
	for side := range 3 {
		for _, inner := range []api.Expr{local(0), num(5), load(local(1)), invoke(1)} {
			x := inner
			for i := range 6 {
				args := []api.Expr{op(1, local(0), num(uint64(i))), local(0), num(97)}
				args[side] = x
				x = op(8, args...)
			}
			p := []api.Func{{Locals: 2, Body: []api.Stmt{set(0, num(1234567)), set(1, num(3)), ret(x)}}, {Body: []api.Stmt{ret(num(41))}}}
			if ir.Check(p) != nil {
				t.Fatal("too deep")
			}
			agree(t, p, []uint64{5, 6, 7, 8}, witness.New())
		}
	}
	// Full trees of three operands, of places and of digests.
	var full func(n int) api.Expr
	full = func(n int) api.Expr {
		if n == 1 {
			return local(0)
		}
		return op(9, full(n-1), full(n-1), op(1, full(n-1), num(3)))
	}
	var places func(n int) api.Expr
	places = func(n int) api.Expr {
		if n <= 2 {
			return op(22, local(0), num(15))
		}
		return op(1, op(30, op(22, load(places(n-3)), num(7)), places(n-1)), num(uint64(n)))
	}
	agree(t, program(1, set(0, num(ones-99)), ret(full(4))), nil, witness.New())
	agree(t, program(1, set(0, num(77)), ret(op(1, local(0), op(1, local(0), places(3))))), []uint64{9, 8, 7, 6, 5, 4, 3, 2, 1}, witness.New())
}

// generator makes right programs at random that come to an end.
type generator struct {
	r       *rand.Rand
	program []api.Func
	at      int
	nodes   int
}

func (g *generator) expr(depth int) api.Expr {
	g.nodes--
	f := g.program[g.at]
	if depth <= 1 || g.nodes < 0 || g.r.Intn(5) == 0 {
		if f.Locals > 0 && g.r.Intn(2) == 0 {
			return local(uint64(g.r.Intn(f.Locals)))
		}
		return num([]uint64{0, 1, 2, 3, 5, 8, 40, 2040, 2047, 2048, ones, 1 << 40, uint64(g.r.Intn(1000)), g.r.Uint64()}[g.r.Intn(14)])
	}
	some := func(n int) []api.Expr {
		var list []api.Expr
		for range n {
			list = append(list, g.expr(depth-1))
		}
		return list
	}
	switch k := g.r.Intn(12); {
	case k == 0:
		return load(g.place(depth - 1))
	case k == 1 && depth > 3:
		o := 30
		if g.r.Intn(6) == 0 {
			o = 31
		}
		return op(o, g.place(depth-1), g.place(depth-1))
	case k <= 3 && g.at+1 < len(g.program):
		callee := g.at + 1 + g.r.Intn(len(g.program)-g.at-1)
		return invoke(callee, some(g.program[callee].Params)...)
	case k <= 5:
		return op(8+g.r.Intn(2), some(3)...)
	case k == 6:
		return op(21+4*g.r.Intn(2), some(1)...)
	}
	return op([]int{1, 2, 3, 4, 5, 6, 7, 10, 11, 12, 13, 14, 15, 16, 17, 18, 19, 20, 22, 23, 24}[g.r.Intn(21)], some(2)...)
}

// place: mostly one of the memory.
func (g *generator) place(depth int) api.Expr {
	x := g.expr(max(depth-2, 1))
	if g.r.Intn(20) == 0 {
		return x
	}
	return op(1, op(22, x, num(63)), num(uint64(g.r.Intn(60))))
}

func (g *generator) list(depth int) []api.Stmt {
	var list []api.Stmt
	for range 1 + g.r.Intn(4) {
		if g.nodes < 0 {
			break
		}
		list = append(list, g.stmt(depth)...)
	}
	return list
}

func (g *generator) stmt(depth int) []api.Stmt {
	g.nodes--
	locals := g.program[g.at].Locals
	e := func() api.Expr { return g.expr(1 + g.r.Intn(6)) }
	switch k := g.r.Intn(12); {
	case k <= 3 && locals > 1:
		return []api.Stmt{set(g.r.Intn(locals-1), e())}
	case k <= 5:
		return []api.Stmt{store(g.place(6), e())}
	case k <= 7 && depth > 0:
		var other []api.Stmt
		if g.r.Intn(2) == 0 {
			other = g.list(depth - 1)
		}
		return []api.Stmt{either(e(), g.list(depth-1), other)}
	case k == 8 && depth > 0 && depth == 3 && locals > 0:
		// The last local is counted down, and nobody else sets it.
		n := locals - 1
		body := append(g.list(0), set(n, op(2, local(uint64(n)), num(1))))
		return []api.Stmt{set(n, num(uint64(g.r.Intn(4)))), while(local(uint64(n)), body...)}
	case k == 9 && g.r.Intn(3) == 0:
		return []api.Stmt{ret(e())}
	case k == 10 && g.r.Intn(8) == 0:
		return []api.Stmt{halt(e())}
	}
	return []api.Stmt{do(e())}
}

// P13.1: whatever a program does, its image does.
func TestRandomPrograms(t *testing.T) {
	exits := map[uint64]int{}
	for seed := range int64(4000) {
		g := &generator{r: rand.New(rand.NewSource(seed))}
		n := 1 + g.r.Intn(5)
		for i := range n {
			locals := g.r.Intn(6)
			params := 0
			if i > 0 && locals > 0 {
				params = g.r.Intn(locals)
			}
			g.program = append(g.program, api.Func{Params: params, Locals: locals})
		}
		for i := range n {
			g.at, g.nodes = i, 60
			g.program[i].Body = append(g.list(3), ret(g.expr(4)))
		}
		if err := ir.Check(g.program); err != nil {
			t.Fatalf("%d: %v", seed, err)
		}
		if _, err := ir.Eval(g.program, nil, witness.New(), 200000); err != nil {
			continue
		}
		data := make([]uint64, 130)
		for i := range data {
			data[i] = uint64(g.r.Intn(200))
		}
		exits[agree(t, g.program, data, witness.New())]++
	}
	if exits[api.Wrong] < 100 || exits[api.Missing] < 100 || len(exits) < 200 {
		t.Errorf("%d exits, %d wrong, %d missing", len(exits), exits[api.Wrong], exits[api.Missing])
	}
}

// P13.1: of 500 in size, 4 functions and 8 locals there is room, however the program is made.
func TestRoom(t *testing.T) {
	huge := uint64(1 << 40)
	fill := func(size int, make func() api.Stmt) []api.Stmt {
		one := sizeOf(make())
		var list []api.Stmt
		for n := one; n <= size; n += one {
			list = append(list, make())
		}
		return list
	}
	next := func() uint64 { huge += 12345; return huge }
	eight := func(x func() api.Expr) []api.Expr {
		var list []api.Expr
		for range 8 {
			list = append(list, x())
		}
		return list
	}
	var chain func(n int) api.Expr
	chain = func(n int) api.Expr {
		if n == 1 {
			return invoke(3)
		}
		return op(9, invoke(3), num(next()), chain(n-1))
	}
	for i, body := range [][]api.Stmt{
		fill(470, func() api.Stmt { return set(1, num(next())) }),
		fill(470, func() api.Stmt { return do(chain(8)) }),
		fill(470, func() api.Stmt { return do(invoke(1, eight(func() api.Expr { return invoke(3) })...)) }),
		fill(470, func() api.Stmt {
			return do(invoke(1, append(eight(func() api.Expr { return num(next()) })[:7], invoke(3))...))
		}),
		fill(470, func() api.Stmt { return do(op(31, op(1, local(0), num(9)), op(1, local(1), num(9)))) }),
		fill(470, func() api.Stmt { return either(local(0), nil, []api.Stmt{do(num(next()))}) }),
		fill(470, func() api.Stmt { return ret(num(next())) }),
		fill(470, func() api.Stmt { return store(load(local(0)), invoke(3)) }),
		fill(470, func() api.Stmt { return while(invoke(3)) }),
	} {
		p := []api.Func{{Locals: 8, Body: body}, {Params: 8, Locals: 8}, {Params: 1, Locals: 8}, {Locals: 8}}
		if x, err := Compile(p); err != nil || len(x.Words) > x.Base {
			t.Errorf("%d: %d words, %v", i, len(x.Words), err)
		}
	}
}

func sizeOf(x api.Stmt) int {
	n := 1 + exprSize(x.A)
	if x.Kind == 2 {
		n += exprSize(x.B)
	}
	for _, l := range [][]api.Stmt{x.Body, x.Else} {
		for _, y := range l {
			n += sizeOf(y)
		}
	}
	return n
}

func exprSize(x api.Expr) int {
	n := 1
	for _, a := range x.Args {
		n += exprSize(a)
	}
	return n
}

// P13.1: what is no program, and what has no room.
func TestCompileErrors(t *testing.T) {
	var many []api.Stmt
	for range 2000 {
		many = append(many, do(op(31, local(0), local(0))))
	}
	for i, c := range []struct {
		p    []api.Func
		want error
	}{{nil, api.ErrShape}, {program(0, ret(local(0))), api.ErrShape}, {make([]api.Func, 65), api.ErrFull}, {program(1, many[:1400]...), api.ErrFull}, {program(1, many...), api.ErrFull},
		{program(0, ret(op(25, op(25, op(25, op(25, op(25, op(25, op(25, op(25, num(1)))))))))), ret(local(9))), api.ErrDeep}} {
		x, err := Compile(c.p)
		if x.Words != nil || x.Base != 0 || err != c.want {
			t.Errorf("%d: %d words, %v; want %v", i, len(x.Words), err, c.want)
		}
	}
}

// P13.2: machines of images, and their memory.
func TestMachineAndData(t *testing.T) {
	x := Image{Words: []uint64{1, 2, 3}, Base: 3}
	m, err := Machine(x, []uint64{7, 8})
	want := &vm.Machine{}
	copy(want.Memory[:], []uint64{1, 2, 3, 7, 8})
	if err != nil || *m != *want {
		t.Errorf("%v", err)
	}
	got, err := Data(x, m)
	if err != nil || len(got) != 2048 || got[0] != 7 || got[1] != 8 || got[2] != 0 {
		t.Errorf("%v", err)
	}
	got[0] = 9
	if m.Memory[3] != 7 {
		t.Error("it is the machine's own memory")
	}
	for _, c := range []struct {
		base, words, data int
		want              error
	}{{-1, 9999, 9999, api.ErrRange}, {6145, 0, 0, api.ErrRange}, {1 << 62, 0, 0, api.ErrRange}, {6144, 6145, 0, api.ErrFull}, {6144, 6144, 2048, nil}, {0, 1, 0, api.ErrFull}, {0, 0, 2048, nil}, {100, 10, 2049, api.ErrFull}} {
		y := Image{Words: make([]uint64, c.words), Base: c.base}
		m, err := Machine(y, make([]uint64, c.data))
		if err != c.want || (m == nil) != (err != nil) {
			t.Errorf("%+v: %v", c, err)
		}
		got, err := Data(y, &vm.Machine{})
		if (c.want == api.ErrRange) != (err == api.ErrRange) || (err == nil) != (len(got) == 2048) {
			t.Errorf("Data %+v: %v", c, err)
		}
	}
	if got, err := Data(Image{Base: -1}, nil); got != nil || err != api.ErrNil {
		t.Errorf("%v", err)
	}
}
