package ir

import (
	"reflect"
	"testing"

	"moot/api"
	"moot/keccak"
	"moot/witness"
	"moot/word"
)

const most = 1<<64 - 1

func num(v uint64) api.Expr   { return api.Expr{Op: 26, N: v} }
func local(n uint64) api.Expr { return api.Expr{Op: 27, N: n} }
func load(x api.Expr) api.Expr {
	return api.Expr{Op: 28, Args: []api.Expr{x}}
}
func op(n int, args ...api.Expr) api.Expr { return api.Expr{Op: n, Args: args} }
func invoke(n uint64, args ...api.Expr) api.Expr {
	return api.Expr{Op: 29, N: n, Args: args}
}
func set(n int, a api.Expr) api.Stmt { return api.Stmt{Kind: 1, N: n, A: a} }
func store(a, b api.Expr) api.Stmt   { return api.Stmt{Kind: 2, A: a, B: b} }
func either(a api.Expr, body, other []api.Stmt) api.Stmt {
	return api.Stmt{Kind: 3, A: a, Body: body, Else: other}
}
func while(a api.Expr, body ...api.Stmt) api.Stmt { return api.Stmt{Kind: 4, A: a, Body: body} }
func ret(a api.Expr) api.Stmt                     { return api.Stmt{Kind: 5, A: a} }
func do(a api.Expr) api.Stmt                      { return api.Stmt{Kind: 6, A: a} }
func halt(a api.Expr) api.Stmt                    { return api.Stmt{Kind: 7, A: a} }
func stmts(list ...api.Stmt) []api.Stmt           { return list }

func program(locals int, body ...api.Stmt) []api.Func {
	return []api.Func{{Locals: locals, Body: body}}
}

func eval(t *testing.T, p []api.Func, data ...uint64) Result {
	t.Helper()
	r, err := Eval(p, data, witness.New(), 100000)
	if err != nil || len(r.Data) != api.DataSize {
		t.Fatalf("%v, %d words", err, len(r.Data))
	}
	return r
}

func want(t *testing.T, exit uint64, used int, p []api.Func, data ...uint64) Result {
	t.Helper()
	r := eval(t, p, data...)
	if r.Exit != exit || r.Used != used {
		t.Errorf("%+v: exit %d, used %d; want %d, %d", p, r.Exit, r.Used, exit, used)
	}
	return r
}

func sumUp() []api.Func {
	return program(2, set(1, num(5)), while(local(1), set(0, op(1, local(0), local(1))), set(1, op(2, local(1), num(1)))), ret(local(0)))
}

// P12.2: the document's examples.
func TestExamples(t *testing.T) {
	want(t, 15, 2+6*2+5*8+2, sumUp())
	want(t, api.Wrong, 3, program(0, ret(load(num(2048)))))
}

// P12.2: each expression's value.
func TestExpressions(t *testing.T) {
	for o := 1; o <= 25; o++ {
		n, _ := word.Args(o)
		v, _ := word.Apply(o, 900, 7, 5)
		want(t, v, 2+n, program(0, ret(op(o, []api.Expr{num(900), num(7), num(5)}[:n]...))))
	}
	want(t, most, 2, program(0, ret(num(most))))
	want(t, 0, 2, program(24, ret(local(23))))
	want(t, 9, 3, program(0, ret(load(num(2047)))), append(make([]uint64, 2047), 9)...)
	want(t, api.Wrong, 3, program(0, ret(load(num(most)))))
	add := api.Func{Params: 2, Locals: 3, Body: stmts(set(2, op(1, local(2), op(2, local(0), local(1)))), ret(local(2)))}
	p := []api.Func{{Body: stmts(ret(invoke(1, num(9), num(4))))}, add}
	want(t, 5, 1+3+1+5+2, p)
	// The locals that are no parameters are 0 at each call.
	twice := []api.Func{{Body: stmts(ret(op(1, invoke(1, num(9), num(4)), invoke(1, num(9), num(4)))))}, add}
	want(t, 10, 1+1+2*(3+1+5+2), twice)
}

// P12.2: a body that ends returns 0.
func TestBodyThatEnds(t *testing.T) {
	want(t, 0, 4, []api.Func{{Body: stmts(ret(invoke(1)))}, {Body: stmts(do(num(4)))}})
	want(t, 0, 2, program(0, do(num(4))))
	want(t, 0, 0, program(0))
}

// P12.2: statements, and how often they count.
func TestStatements(t *testing.T) {
	r := want(t, 0, 3, program(0, store(num(2047), num(8))))
	if r.Data[2047] != 8 {
		t.Errorf("%d", r.Data[2047])
	}
	want(t, api.Wrong, 3, program(0, store(num(2048), num(8)), halt(num(1))))
	want(t, 1, 4, program(0, either(num(2), stmts(ret(num(1))), stmts(ret(num(0))))))
	want(t, 0, 4, program(0, either(num(0), stmts(ret(num(1))), stmts(ret(num(0))))))
	want(t, 7, 4, program(0, either(num(0), stmts(ret(num(1))), nil), halt(num(7))))
	want(t, 0, 2, program(0, while(num(0), halt(num(9)))))
	want(t, 9, 4, program(0, while(num(1), ret(num(9)))))
	want(t, 3, 2, program(0, halt(num(3)), halt(num(4))))
	want(t, api.Wrong, 4, program(0, do(op(25, load(num(2048)))), halt(num(1))))
	want(t, api.Wrong, 5, program(0, store(num(1), op(25, load(num(2048)))), halt(num(1))))
	want(t, 3, 2+2, []api.Func{{Body: stmts(do(invoke(1)), halt(num(4)))}, {Body: stmts(halt(num(3)))}})
	want(t, 5, 2+4+2, []api.Func{{Body: stmts(do(invoke(1)), ret(num(5)))}, {Body: stmts(while(num(1), ret(num(3))))}})
}

// logged: a function that puts its argument behind what is in the memory, and returns its second one.
var logged = api.Func{Params: 2, Locals: 2, Body: stmts(
	store(op(1, load(num(0)), num(1)), local(0)), store(num(0), op(1, load(num(0)), num(1))), ret(local(1)))}

// P12.2: from the left to the right, each once.
func TestOrder(t *testing.T) {
	say := func(n, v uint64) api.Expr { return invoke(1, num(n), num(v)) }
	for _, body := range [][]api.Stmt{
		stmts(do(op(8, say(1, 5), say(2, 6), say(3, 7)))),
		stmts(store(op(1, say(1, 5), say(2, 95)), say(3, 7))),
		stmts(set(0, say(1, 5)), either(say(2, 0), stmts(do(say(9, 0))), stmts(do(say(3, 0))))),
		stmts(do(invoke(2, say(1, 5), say(2, 6), say(3, 7)))),
		stmts(store(op(1, say(1, most), num(0)), op(1, say(2, 5), say(3, 6)))),
	} {
		r := eval(t, []api.Func{{Locals: 1, Body: body}, logged, {Params: 3, Locals: 3}})
		if !reflect.DeepEqual(r.Data[:5], []uint64{3, 1, 2, 3, 0}) {
			t.Errorf("%v", r.Data[:5])
		}
	}
	if r := eval(t, []api.Func{{Body: stmts(store(num(most), invoke(1, num(1), num(5))))}, logged}); r.Exit != api.Wrong || r.Data[0] != 1 {
		t.Errorf("B is worked out ahead of the place: %d, %v", r.Exit, r.Data[:2])
	}
}

func wordsOf(b []byte) []uint64 {
	list := make([]uint64, len(b)/8)
	for i, x := range b {
		list[i/8] = list[i/8]<<8 | uint64(x)
	}
	return list
}

// P12.2: Hash and Pre, at the memory's edges and beyond.
func TestHashAndPre(t *testing.T) {
	s := witness.New()
	p := api.Pre{}
	for i := range p {
		p[i] = byte(7 * i)
	}
	h := keccak.Sum(p[:])
	data := wordsOf(p[:])
	for _, to := range []uint64{100, 2, 2044} {
		r, err := Eval(program(0, ret(op(30, num(0), num(to)))), data, s, 99)
		if err != nil || r.Exit != 0 || r.Used != 4 || !reflect.DeepEqual(r.Data[to:to+4], wordsOf(h[:])) {
			t.Errorf("Hash to %d: %d, %v", to, r.Exit, err)
		}
	}
	if got, _ := s.Get(h); got != p || s.Len() != 17 {
		t.Error("not in the store")
	}
	for _, to := range []uint64{100, 2, 2040} {
		r, err := Eval(program(0, ret(op(31, num(0), num(to)))), wordsOf(h[:]), s, 99)
		if err != nil || r.Exit != 0 || r.Used != 4 || !reflect.DeepEqual(r.Data[to:to+8], data) {
			t.Errorf("Pre to %d: %d, %v", to, r.Exit, err)
		}
	}
	s.Asked()
	for _, c := range [][3]uint64{{30, 2041, 0}, {30, 0, 2045}, {30, most, 0}, {30, 0, most - 2}, {31, 2045, 0}, {31, 0, 2041}, {31, most - 1, 0}, {31, 0, most - 6}} {
		r, err := Eval(program(0, ret(op(int(c[0]), num(c[1]), num(c[2])))), nil, s, 99)
		if err != nil || r.Exit != api.Wrong || r.Used != 4 || s.Len() != 17 || len(s.Asked()) != 0 {
			t.Errorf("%v: %d, %v", c, r.Exit, err)
		}
	}
	if r, err := Eval(program(0, do(op(31, num(0), num(8))), do(op(30, num(8), num(20))), ret(num(5))), wordsOf(h[:]), s, 99); err != nil || r.Exit != 5 {
		t.Errorf("behind a Pre and a Hash: %d, %v", r.Exit, err)
	}
	s.Asked()
	r, err := Eval(program(0, store(num(9), num(4)), ret(op(31, num(0), num(8)))), nil, s, 99)
	if err != nil || r.Exit != api.Missing || r.Used != 7 || r.Data[9] != 4 {
		t.Errorf("missing: %d, %v", r.Exit, err)
	}
	if asked := s.Asked(); len(asked) != 1 || asked[0] != (api.Hash{}) {
		t.Errorf("asked %x", asked)
	}
}

// P12.2: the fuel is just enough, or one too little.
func TestFuel(t *testing.T) {
	programs := [][]api.Func{sumUp(), program(0), program(0, ret(op(30, num(0), num(9)))), program(0, store(num(1), load(num(0)))),
		{{Body: stmts(ret(invoke(1, num(9))))}, {Params: 1, Locals: 3, Body: stmts(either(local(0), stmts(halt(num(4))), nil))}}}
	for _, p := range programs {
		used := eval(t, p).Used
		for fuel := range used {
			if r, err := Eval(p, nil, witness.New(), fuel); !reflect.DeepEqual(r, Result{}) || err != api.ErrFuel {
				t.Errorf("%d of %d: %+v, %v", fuel, used, r, err)
			}
		}
		if r, err := Eval(p, nil, witness.New(), used); err != nil || r.Used != used {
			t.Errorf("%d: %v", used, err)
		}
	}
	few := witness.New()
	if _, err := Eval(program(0, do(op(30, num(0), num(9)))), []uint64{1}, few, 3); err != api.ErrFuel || few.Len() != 16 {
		t.Errorf("hashed without fuel: %v", err)
	}
	s := witness.New()
	if _, err := Eval(program(0, do(op(30, num(0), num(9))), store(num(9), num(1)), while(num(1))), []uint64{1}, s, 1000); err != api.ErrFuel || s.Len() != 17 {
		t.Errorf("%v, %d", err, s.Len())
	}
}

// P12.2: the errors in their order; what is handed in stays.
func TestEvalErrors(t *testing.T) {
	s, wrong := witness.New(), program(0, ret(local(0)))
	for i, c := range []struct {
		p    []api.Func
		n    int
		s    *witness.Store
		fuel int
		want error
	}{{wrong, 2049, nil, -1, api.ErrNil}, {wrong, 2049, s, -1, api.ErrShape}, {sumUp(), 2049, s, -1, api.ErrFull}, {sumUp(), 2048, s, -1, api.ErrRange}, {sumUp(), 2048, s, 0, api.ErrFuel}} {
		if r, err := Eval(c.p, make([]uint64, c.n), c.s, c.fuel); !reflect.DeepEqual(r, Result{}) || err != c.want {
			t.Errorf("%d: %+v, %v", i, r, err)
		}
	}
	data := []uint64{1, 2, 3}
	if r := want(t, 0, 3, program(0, store(num(1), num(9))), data[:2]...); r.Data[1] != 9 || r.Data[2] != 0 || data[1] != 2 {
		t.Errorf("%v, %v", r.Data[:3], data)
	}
}

func deepExprOf(n int) api.Expr {
	x := num(1)
	for range n - 1 {
		x = op(25, x)
	}
	return x
}

func deepListOf(n int, inner ...api.Stmt) []api.Stmt {
	list := inner
	for i := range n {
		if i%2 == 0 {
			list = stmts(either(num(1), nil, list))
		} else {
			list = stmts(while(num(0), list...))
		}
	}
	return list
}

func many(n int) []api.Stmt {
	list := make([]api.Stmt, n)
	for i := range list {
		list[i] = do(num(1))
	}
	return list
}

// P12.1: what is too deep, too much, or not right, in this order.
func TestCheck(t *testing.T) {
	shapeless := do(op(99))
	for i, c := range []struct {
		p    []api.Func
		want error
	}{
		{sumUp(), nil}, {nil, api.ErrShape},
		{program(0, do(deepExprOf(8))), nil}, {program(0, do(deepExprOf(9))), api.ErrDeep}, {program(0, store(num(1), deepExprOf(9))), api.ErrDeep},
		{program(0, deepListOf(15, do(num(1)))...), nil}, {program(0, deepListOf(16, do(num(1)))...), api.ErrDeep}, {program(0, deepListOf(16)...), nil},
		{program(0, deepListOf(17)...), api.ErrDeep}, {program(0, deepListOf(10, ret(deepExprOf(9)))...), api.ErrDeep},
		{program(0, many(3000)...), nil}, {program(0, append(many(3000), while(num(0)))...), api.ErrFull}, {program(0, append(many(2999), store(num(0), num(0)))...), api.ErrFull},
		{program(0, append(many(2998), do(op(1, num(1), num(1))))...), nil}, {program(0, append(many(2999), do(op(1, num(1), num(1))))...), api.ErrFull},
		{append(program(0, many(1500)...), program(0, many(1501)...)...), api.ErrFull},
		{program(0, append(many(3001), do(deepExprOf(9)))...), api.ErrDeep}, {program(0, append(many(3001), shapeless)...), api.ErrFull},
		{append(program(0, shapeless), program(0, do(deepExprOf(9)))...), api.ErrDeep},
		{make([]api.Func, 64), nil}, {make([]api.Func, 65), api.ErrFull}, {append(program(0, shapeless), make([]api.Func, 64)...), api.ErrFull},
		{[]api.Func{{Params: 1, Locals: 1}}, api.ErrShape}, {[]api.Func{{}, {Params: 1, Locals: 1}}, nil}, {[]api.Func{{}, {Params: 2, Locals: 1}}, api.ErrShape},
		{[]api.Func{{}, {Params: -1, Locals: 1}}, api.ErrShape}, {[]api.Func{{Locals: -1}}, api.ErrShape}, {[]api.Func{{Locals: 24}}, nil}, {[]api.Func{{Locals: 25}}, api.ErrShape},
	} {
		if err := Check(c.p); err != c.want {
			t.Errorf("%d: %v; want %v", i, err, c.want)
		}
		if c.want != nil {
			if r, err := Eval(c.p, nil, witness.New(), 9); !reflect.DeepEqual(r, Result{}) || err != c.want {
				t.Errorf("Eval %d: %v; want %v", i, err, c.want)
			}
		}
	}
}

// P12.1: each expression and statement that is not right.
func TestCheckShapes(t *testing.T) {
	one := num(1)
	body := func(x api.Stmt) []api.Func {
		return []api.Func{{Locals: 2, Body: stmts(x)}, {Params: 2, Locals: 2}}
	}
	good := []api.Stmt{do(invoke(1, one, one)), set(1, local(1)), do(op(30, one, one)), do(op(31, one, one)), do(op(9, one, one, one)), do(op(21, one)),
		{Kind: 5, A: one, N: 99, B: op(99), Body: stmts(api.Stmt{}), Else: many(7000)}, {Kind: 4, A: one, Else: stmts(api.Stmt{})}, {Kind: 1, A: one, B: deepExprOf(9)}}
	for i, x := range good {
		if err := Check(body(x)); err != nil {
			t.Errorf("%d: %v", i, err)
		}
	}
	bad := []api.Stmt{{}, {Kind: -1}, {Kind: 8, A: one}, set(2, one), set(-1, one), do(local(2)), do(local(most)), do(op(0)), do(op(32)), do(op(-1)),
		do(op(1, one)), do(op(1, one, one, one)), do(op(8, one, one)), do(op(21, one, one)), do(op(21)), do(op(26, one)), do(op(27, one)),
		do(op(28)), do(op(28, one, one)), do(op(30, one)), do(op(31, one, one, one)), do(invoke(1, one)), do(invoke(1, one, one, one)), do(invoke(0)), do(invoke(2)), do(invoke(most)),
		while(op(1)), while(one, api.Stmt{}), either(one, stmts(api.Stmt{}), nil), either(one, nil, stmts(api.Stmt{})), store(one, op(1)), store(op(1), one), halt(op(1)), ret(op(1)), do(op(1, one, op(1)))}
	for i, x := range bad {
		if err := Check(body(x)); err != api.ErrShape {
			t.Errorf("%d: %+v: %v", i, x, err)
		}
	}
	if err := Check([]api.Func{{}, {Body: stmts(do(invoke(1)))}}); err != api.ErrShape {
		t.Errorf("a call of itself: %v", err)
	}
	if err := Check([]api.Func{{}, {}, {Body: stmts(do(invoke(1)))}}); err != api.ErrShape {
		t.Errorf("a call of an earlier one: %v", err)
	}
}
