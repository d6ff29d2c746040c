package client

import "moot/api"

// runFunction: frames, until the outermost one has ended.
func runFunction() api.Func {
	return function(0, 0,
		lay(statusAt, num(running)),
		while(isZero(word(statusAt)),
			do(call(fnOperate)),
			when(word(statusAt), do(call(fnFinish)))))
}

// enterFunction: the frame that was laid begins: its code is read, all else of it is noughts.
func enterFunction() api.Func {
	const base, length, at = 0, 1, 2
	end := further(shr(num(3), local(length)), frameAt+codeField)
	ones := uint64(1<<64 - 1)
	return function(0, 3,
		set(base, account(field(selfField))),
		set(length, call(fnRead, further(local(base), lengthSlot))),
		when(above(local(length), num(api.CodeSize)), halt(api.ClientBad)),
		do(call(fnCopy, num(noughtsAt), num(frameAt+memoryField), num(freshSize/blockSize))),
		while(below(shl(num(3), local(at)), local(length)),
			store(further(local(at), frameAt+codeField), call(fnRead, further(add(local(base), local(at)), codeSlot))),
			set(at, add(local(at), num(1)))),
		// What stands behind the code's end in its last word is no part of it.
		store(end, and(wordAt(shr(num(3), local(length)), frameAt+codeField), invert(shr(shl(num(3), and(local(length), num(7))), num(ones))))),
		keep(answerField, num(0)),
		keep(pcField, num(0)),
		keep(heightField, num(0)),
		do(call(fnDests, local(length))),
	)
}

// destsFunction: the bits of the bytes of the frame's code that may be jumped to.
func destsFunction() api.Func {
	const length, at, op, dests = 0, 1, 2, 3
	return function(1, 4,
		while(below(local(at), local(length)),
			set(op, codeByte(local(at))),
			when(equal(local(op), num(opJumpdest)), set(dests, or(local(dests), shl(local(at), num(1))))),
			when(below(sub(local(op), num(opPush)), num(operandKinds)), set(at, add(local(at), wordAt(local(op), behindAt-opPush)))),
			set(at, add(local(at), num(1)))),
		keep(destsField, local(dests)))
}

// codeByte: of the frame's code, or of the noughts behind it.
func codeByte(at api.Expr) api.Expr {
	return byteOf(and(at, num(7)), wordAt(shr(num(3), at), frameAt+codeField))
}

// finishFunction: the frame has ended; what it did is undone, if it has failed, and the one that waits for it goes on.
func finishFunction() api.Func {
	const done, gas = 0, 1
	return function(0, 2,
		set(done, equal(word(statusAt), num(finished))),
		when(equal(word(statusAt), num(failed)),
			keep(gasField, num(0)),
			lay(resultAt, num(0))),
		when(isZero(local(done)),
			do(call(fnCopy, num(frameAt+undoField), num(rootAt), num(preSize/blockSize)))),
		when(field(depthField),
			set(gas, field(gasField)),
			do(call(fnCopy, saved(-1), num(frameAt), num(frameSize/blockSize))),
			keep(gasField, add(field(gasField), local(gas))),
			keep(answerField, word(resultAt)),
			do(call(fnPush, local(done))),
			lay(statusAt, num(running))))
}

// saved: where a frame waits while one that is deeper is run: of the depth at hand, or so much deeper.
func saved(deeper int) api.Expr {
	return further(times(field(depthField), num(frameSize)), savedAt+deeper*frameSize)
}

// callFunction: a call is begun, or refused.
func callFunction() api.Func {
	const to, value, data, gas, most = 0, 1, 2, 3, 4
	return function(4, 5,
		keep(answerField, num(0)),
		when(equal(field(depthField), num(api.MaxFrames-1)), give(call(fnPush, num(0)))),
		do(call(fnCopy, num(rootAt), num(aheadAt), num(preSize/blockSize))),
		when(isZero(call(fnMove, field(selfField), local(to), local(value))), give(call(fnPush, num(0)))),
		set(most, sub(field(gasField), shr(num(6), field(gasField)))),
		when(below(local(most), local(gas)), set(gas, local(most))),
		keep(gasField, sub(field(gasField), local(gas))),
		do(call(fnCopy, num(frameAt), saved(0), num(frameSize/blockSize))),
		do(call(fnCopy, num(aheadAt), num(frameAt+undoField), num(preSize/blockSize))),
		keep(callerField, field(selfField)),
		keep(valueField, local(value)),
		keep(dataField, local(data)),
		keep(gasField, local(gas)),
		keep(selfField, local(to)),
		keep(depthField, add(field(depthField), num(1))),
		do(call(fnEnter)),
	)
}

// pushFunction: a word more on the stack.
func pushFunction() api.Func {
	const v = 0
	return function(1, 1,
		store(further(field(heightField), frameAt+stackField), local(v)),
		keep(heightField, add(field(heightField), num(1))))
}

func failFunction() api.Func {
	return function(0, 0, lay(statusAt, num(failed)))
}
