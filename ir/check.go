package ir

import (
	"moot/api"
	"moot/grammar"
	"moot/word"
)

// Check: is a program right? ErrDeep, ErrFull, ErrShape.
func Check(p []api.Func) error {
	nodes := 0
	for _, f := range p {
		if deepList(f.Body, api.MaxBlock) {
			return api.ErrDeep
		}
	}
	for _, f := range p {
		nodes = countList(f.Body, nodes)
	}
	if nodes > api.MaxNodes || len(p) > api.MaxFuncs {
		return api.ErrFull
	}
	if len(p) == 0 || p[0].Params != 0 {
		return api.ErrShape
	}
	for at, f := range p {
		if f.Params < 0 || f.Params > f.Locals || f.Locals > api.MaxLocals || !rightList(p, at, f.Body) {
			return api.ErrShape
		}
	}
	return nil
}

// parts: the expressions and the lists of a statement that are looked at.
func parts(x api.Stmt) ([]api.Expr, [][]api.Stmt) {
	switch x.Kind {
	case grammar.Set, grammar.Return, grammar.Do, grammar.Halt:
		return []api.Expr{x.A}, nil
	case grammar.Store:
		return []api.Expr{x.A, x.B}, nil
	case grammar.If:
		return []api.Expr{x.A}, [][]api.Stmt{x.Body, x.Else}
	case grammar.While:
		return []api.Expr{x.A}, [][]api.Stmt{x.Body}
	}
	return nil, nil
}

// deepList: is a list deeper than most, or an expression in it too deep? Neither is followed further than that.
func deepList(list []api.Stmt, most int) bool {
	if len(list) > 0 && most == 0 {
		return true
	}
	for _, x := range list {
		exprs, lists := parts(x)
		for _, e := range exprs {
			if deepExpr(e, api.MaxExpr) {
				return true
			}
		}
		for _, l := range lists {
			if deepList(l, most-1) {
				return true
			}
		}
	}
	return false
}

func deepExpr(x api.Expr, most int) bool {
	if most == 0 {
		return true
	}
	for _, arg := range x.Args {
		if deepExpr(arg, most-1) {
			return true
		}
	}
	return false
}

// countList: n, and how many statements and expressions are in the list; above the bound it counts no further.
func countList(list []api.Stmt, n int) int {
	for _, x := range list {
		if n > api.MaxNodes {
			return n
		}
		n++
		exprs, lists := parts(x)
		for _, e := range exprs {
			n = countExpr(e, n)
		}
		for _, l := range lists {
			n = countList(l, n)
		}
	}
	return n
}

func countExpr(x api.Expr, n int) int {
	n++
	for _, arg := range x.Args {
		if n > api.MaxNodes {
			return n
		}
		n = countExpr(arg, n)
	}
	return n
}

// rightList: of the function that stands at a place of the program.
func rightList(p []api.Func, at int, list []api.Stmt) bool {
	for _, x := range list {
		if x.Kind < grammar.Set || x.Kind > grammar.Halt || x.Kind == grammar.Set && (x.N < 0 || x.N >= p[at].Locals) {
			return false
		}
		exprs, lists := parts(x)
		for _, e := range exprs {
			if !rightExpr(p, at, e) {
				return false
			}
		}
		for _, l := range lists {
			if !rightList(p, at, l) {
				return false
			}
		}
	}
	return true
}

func rightExpr(p []api.Func, at int, x api.Expr) bool {
	n, ok := argsOf(p, at, x)
	if !ok || len(x.Args) != n {
		return false
	}
	for _, arg := range x.Args {
		if !rightExpr(p, at, arg) {
			return false
		}
	}
	return true
}

// argsOf: how many arguments an expression needs, and whether its Op and its N may be.
func argsOf(p []api.Func, at int, x api.Expr) (int, bool) {
	switch x.Op {
	case grammar.Const:
		return 0, true
	case grammar.Local:
		return 0, x.N < uint64(p[at].Locals)
	case grammar.Load:
		return 1, true
	case grammar.Call:
		if x.N <= uint64(at) || x.N >= uint64(len(p)) {
			return 0, false
		}
		return p[x.N].Params, true
	case grammar.Hash, grammar.Pre:
		return 2, true
	}
	n, err := word.Args(x.Op)
	return n, err == nil
}
