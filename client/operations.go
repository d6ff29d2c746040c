package client

import (
	"moot/api"
	"moot/grammar"
)

// never is the shape of what is no operation: it takes more than any stack has.
const never = 15

// What a word of shapes has of each operation: how much it takes, puts and costs, and how many bytes stand behind it, in 4 bits each.
const (
	putsBit   = 4
	costBit   = 8
	behindBit = 12
	shapeBits = 16
	lastOp    = opRevert
)

// shapeOf: an operation's as the program keeps it.
func shapeOf(op int) uint64 {
	shape := func(takes, puts, cost, behind uint64) uint64 {
		return takes | puts<<putsBit | cost<<costBit | behind<<behindBit
	}
	switch {
	case op == opStop:
		return 0
	case op == grammar.Addmod || op == grammar.Mulmod:
		return shape(3, 1, 1, 0)
	case op == grammar.Iszero || op == grammar.Not:
		return shape(1, 1, 1, 0)
	case op < grammar.Not:
		return shape(2, 1, 1, 0)
	case op >= opTold && op < opBalance || op == opAnswer:
		return shape(0, 1, 1, 0)
	}
	switch op {
	case opPush, opDup:
		return shape(0, 1, 1, 1)
	case opPush8:
		return shape(0, 1, 1, 8)
	case opSwap:
		return shape(0, 0, 1, 1)
	case opPop, opJump, opReturn, opRevert:
		return shape(1, 0, 1, 0)
	case opMload:
		return shape(1, 1, 1, 0)
	case opMstore, opJumpi:
		return shape(2, 0, 1, 0)
	case opSload, opBalance:
		return shape(1, 1, 4, 0)
	case opSstore:
		return shape(2, 0, 8, 0)
	case opJumpdest:
		return shape(0, 0, 1, 0)
	case opHash:
		return shape(2, 1, 4, 0)
	case opLog:
		return shape(1, 0, 8, 0)
	case opCall:
		return shape(4, 1, 8, 0)
	}
	return never
}

// tables: the statements that lay the operations' shapes.
func tables() []api.Stmt {
	list := []api.Stmt{}
	for i := range shapeWords {
		v := uint64(0)
		for j := range 4 {
			v |= shapeOf(4*i+j) << (shapeBits * j)
		}
		list = append(list, lay(shapesAt+i, num(v)))
	}
	for i := range operandKinds {
		list = append(list, lay(behindAt+i, num(shapeOf(opPush+i)>>behindBit)))
	}
	return list
}

func shapeFunction() api.Func {
	const op = 0
	return function(1, 1,
		when(above(local(op), num(lastOp)), give(num(never))),
		give(and(shr(shl(num(4), and(local(op), num(3))), wordAt(shr(num(2), local(op)), shapesAt)), num(1<<shapeBits-1))))
}

// operateFunction: the frame's next operation. Why it fails doesn't tell in the output, so that all it asks for ahead is asked at once.
func operateFunction() api.Func {
	const op, at, behind, shape, n, height, takes, needs = 0, 1, 2, 3, 4, 5, 6, 7
	bits := shl(num(3), and(local(at), num(7)))
	codeWord := func(further int) api.Expr {
		return wordAt(shr(num(3), local(at)), frameAt+codeField+further)
	}
	part := func(bit int) api.Expr { return and(shr(num(uint64(bit)), local(shape)), num(15)) }
	after := add(sub(local(height), local(takes)), part(putsBit))
	return function(0, 8,
		set(op, codeByte(field(pcField))),
		set(at, add(field(pcField), num(1))),
		set(shape, call(fnShape, local(op))),
		set(behind, shr(num(behindBit), local(shape))),
		// The eight bytes behind the operation, of which only the first ones may be its own.
		set(n, or(shl(bits, codeWord(0)), shr(sub(num(64), bits), codeWord(1)))),
		set(n, shr(sub(num(64), shl(num(3), local(behind))), local(n))),
		set(height, field(heightField)),
		set(takes, and(local(shape), num(15))),
		set(needs, local(takes)),
		when(below(sub(local(op), num(opDup)), num(2)), set(needs, add(local(n), num(1)))),
		when(and(equal(local(op), num(opSwap)), isZero(local(n))), set(needs, num(never))),
		when(or(or(above(local(needs), local(height)), above(after, num(api.MaxStack))), below(field(gasField), part(costBit))),
			give(call(fnFail))),
		keep(gasField, sub(field(gasField), part(costBit))),
		keep(pcField, add(local(at), local(behind))),
		keep(heightField, sub(local(height), local(takes))),
		do(call(fnPerform, local(op), local(n), local(height))),
	)
}

// The locals of the function that performs: the operation, its number, the height of the stack ahead of it, and the two words on top.
const (
	performOp = iota
	performN
	performHeight
	performA
	performB
	performLocals
)

// peek: a word of the stack, so far below the top.
func peek(down int) api.Expr {
	return wordAt(local(performHeight), frameAt+stackField-1-down)
}

// deep: where the word n below the top stands.
func deep() api.Expr {
	return further(sub(local(performHeight), local(performN)), frameAt+stackField-1)
}

// performFunction: an operation that was paid for. What lies below the stack is looked at, too, but then not used.
func performFunction() api.Func {
	op, n, a, b := local(performOp), local(performN), local(performA), local(performB)
	push := func(v api.Expr) []api.Stmt { return block(do(call(fnPush, v))) }
	fail := block(do(call(fnFail)))
	end := func(status uint64, v api.Expr) []api.Stmt {
		return block(lay(resultAt, v), lay(statusAt, num(status)))
	}
	balanceOf := account(a)
	body := block(set(performA, peek(0)), set(performB, peek(1)))
	body = append(body, choose(op,
		pick{opStop, end(finished, num(0))},
		pick{opWord, push(call(fnWordOp, op, a, b, peek(2)))},
		pick{opPush, push(n)},
		pick{opPop, nil},
		pick{opDup, push(apply(grammar.Load, deep()))},
		pick{opSwap, block(set(performB, apply(grammar.Load, deep())), store(deep(), a), store(further(local(performHeight), frameAt+stackField-1), local(performB)))},
		pick{opMload, block(either(above(a, num(api.MaxMemory-1)), fail, access(a, b)))},
		pick{opJump, jump(a)},
		pick{opJumpi, block(when(b, jump(a)...))},
		pick{opJumpdest, nil},
		pick{opTold, push(wordAt(op, frameAt-opTold))},
		pick{opBalance, block(either(above(a, num(api.MaxAccounts-1)), fail, push(call(fnRead, balanceOf))))},
		pick{opHash, append(block(lay(pairAt+3, a), lay(pairAt+7, b), hash(num(pairAt), num(pairAt+preSize))), push(word(pairAt+preSize))...)},
		pick{opLog, block(lay(batchAt+2, field(selfField)), lay(batchAt+3, a), hash(num(outAt), num(outAt)))},
		pick{opCall, block(either(above(a, num(api.MaxAccounts-1)), fail, block(do(call(fnCall, a, b, peek(2), peek(3))))))},
		pick{opAnswer, push(field(answerField))},
		pick{opReturn, end(finished, a)},
		pick{opRevert, end(reverted, a)},
	)...)
	return function(3, performLocals, body...)
}

// access: to memory or storage, at a place that they have.
func access(a, b api.Expr) []api.Stmt {
	stored := further(add(account(field(selfField)), a), storageSlot)
	return choose(local(performOp),
		pick{opMload, block(do(call(fnPush, wordAt(a, frameAt+memoryField))))},
		pick{opMstore, block(store(further(a, frameAt+memoryField), b))},
		pick{opSload, block(do(call(fnPush, call(fnRead, stored))))},
		pick{opSstore, block(do(call(fnRead, stored)), do(call(fnUpdate, b)))},
	)
}

func jump(to api.Expr) []api.Stmt {
	return block(either(and(shr(to, field(destsField)), num(1)), block(keep(pcField, to)), block(do(call(fnFail)))))
}

// wordOpFunction: layer 1's operations, which the language has, too.
func wordOpFunction() api.Func {
	const op, a, b, c = 0, 1, 2, 3
	picks := []pick{}
	for n := opWord; n <= grammar.Not; n++ {
		operands := []api.Expr{local(a), local(b), local(c)}
		picks = append(picks, pick{n, block(give(apply(n, operands[:shapeOf(n)&15]...)))})
	}
	return function(4, 4, choose(local(op), picks...)...)
}
