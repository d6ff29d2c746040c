package client

import (
	"moot/api"
	"moot/grammar"
)

// The builders of statements and expressions, by the names that they have in the document.

func block(list ...api.Stmt) []api.Stmt { return list }

func function(params, locals int, body ...api.Stmt) api.Func {
	return api.Func{Params: params, Locals: locals, Body: body}
}

func set(n int, a api.Expr) api.Stmt {
	return api.Stmt{Kind: grammar.Set, N: n, A: a}
}

func store(place, v api.Expr) api.Stmt {
	return api.Stmt{Kind: grammar.Store, A: place, B: v}
}

// lay: a word at a place that is known.
func lay(place int, v api.Expr) api.Stmt {
	return store(num(uint64(place)), v)
}

func when(a api.Expr, body ...api.Stmt) api.Stmt {
	return api.Stmt{Kind: grammar.If, A: a, Body: body}
}

func either(a api.Expr, body, other []api.Stmt) api.Stmt {
	return api.Stmt{Kind: grammar.If, A: a, Body: body, Else: other}
}

func while(a api.Expr, body ...api.Stmt) api.Stmt {
	return api.Stmt{Kind: grammar.While, A: a, Body: body}
}

func give(a api.Expr) api.Stmt {
	return api.Stmt{Kind: grammar.Return, A: a}
}

func do(a api.Expr) api.Stmt {
	return api.Stmt{Kind: grammar.Do, A: a}
}

func halt(exit uint64) api.Stmt {
	return api.Stmt{Kind: grammar.Halt, A: num(exit)}
}

func num(v uint64) api.Expr {
	return api.Expr{Op: grammar.Const, N: v}
}

func local(n int) api.Expr {
	return api.Expr{Op: grammar.Local, N: uint64(n)}
}

func call(fn int, args ...api.Expr) api.Expr {
	return api.Expr{Op: grammar.Call, N: uint64(fn), Args: args}
}

func apply(op int, args ...api.Expr) api.Expr {
	return api.Expr{Op: op, Args: args}
}

// word: what stands at a place that is known; wordAt: at one that is worked out, and so much further on.
func word(place int) api.Expr { return apply(grammar.Load, num(uint64(place))) }

func wordAt(from api.Expr, offset int) api.Expr { return apply(grammar.Load, further(from, offset)) }

func further(from api.Expr, offset int) api.Expr {
	return apply(grammar.Add, from, num(uint64(offset)))
}

func hash(from, to api.Expr) api.Stmt     { return do(apply(grammar.Hash, from, to)) }
func preimage(from, to api.Expr) api.Stmt { return do(apply(grammar.Pre, from, to)) }

func add(a, b api.Expr) api.Expr      { return apply(grammar.Add, a, b) }
func sub(a, b api.Expr) api.Expr      { return apply(grammar.Sub, a, b) }
func times(a, b api.Expr) api.Expr    { return apply(grammar.Mul, a, b) }
func byteOf(a, b api.Expr) api.Expr   { return apply(grammar.Byte, a, b) }
func shl(by, b api.Expr) api.Expr     { return apply(grammar.Shl, by, b) }
func shr(by, b api.Expr) api.Expr     { return apply(grammar.Shr, by, b) }
func below(a, b api.Expr) api.Expr    { return apply(grammar.Lt, a, b) }
func above(a, b api.Expr) api.Expr    { return apply(grammar.Gt, a, b) }
func equal(a, b api.Expr) api.Expr    { return apply(grammar.Eq, a, b) }
func isZero(a api.Expr) api.Expr      { return apply(grammar.Iszero, a) }
func and(a, b api.Expr) api.Expr      { return apply(grammar.And, a, b) }
func or(a, b api.Expr) api.Expr       { return apply(grammar.Or, a, b) }
func xor(a, b api.Expr) api.Expr      { return apply(grammar.Xor, a, b) }
func invert(a api.Expr) api.Expr      { return apply(grammar.Not, a) }
func field(n int) api.Expr            { return word(frameAt + n) }
func keep(n int, v api.Expr) api.Stmt { return lay(frameAt+n, v) }

// account: where the words of an account begin in the state.
func account(n api.Expr) api.Expr { return shl(num(accountBits), n) }

// pick is what is done from a number on, up to the next one's.
type pick struct {
	from int
	body []api.Stmt
}

// choose: the pick in which a number is; half of those that are left fall away with each question.
func choose(x api.Expr, picks ...pick) []api.Stmt {
	if len(picks) == 1 {
		return picks[0].body
	}
	middle := len(picks) / 2
	low, high := choose(x, picks[:middle]...), choose(x, picks[middle:]...)
	return block(either(below(x, num(uint64(picks[middle].from))), low, high))
}

// fresh: the same statements in memory of their own, for a builder may have used one expression twice.
func fresh(list []api.Stmt) []api.Stmt {
	copied := []api.Stmt{}
	for _, x := range list {
		x.A, x.B = freshExpr(x.A), freshExpr(x.B)
		x.Body, x.Else = fresh(x.Body), fresh(x.Else)
		copied = append(copied, x)
	}
	return copied
}

func freshExpr(x api.Expr) api.Expr {
	args := []api.Expr{}
	for _, arg := range x.Args {
		args = append(args, freshExpr(arg))
	}
	x.Args = args
	return x
}
