package client

import "moot/api"

// The functions of the program: each one calls only those behind it.
const (
	fnMain = iota
	fnTransact
	fnRun
	fnOperate
	fnPerform
	fnCall
	fnFinish
	fnEnter
	fnDests
	fnMove
	fnMore
	fnWordOp
	fnShape
	fnCopy
	fnPush
	fnFail
	fnRead
	fnUpdate
	fnCount
)

// Program: the client.
func Program() []api.Func {
	p := make([]api.Func, fnCount)
	p[fnMain] = mainFunction()
	p[fnTransact] = transactFunction()
	p[fnRun] = runFunction()
	p[fnOperate] = operateFunction()
	p[fnPerform] = performFunction()
	p[fnCall] = callFunction()
	p[fnFinish] = finishFunction()
	p[fnEnter] = enterFunction()
	p[fnDests] = destsFunction()
	p[fnMove] = moveFunction()
	p[fnMore] = moreFunction()
	p[fnWordOp] = wordOpFunction()
	p[fnShape] = shapeFunction()
	p[fnCopy] = copyFunction()
	p[fnPush] = pushFunction()
	p[fnFail] = failFunction()
	p[fnRead] = readFunction()
	p[fnUpdate] = updateFunction()
	for i := range p {
		p[i].Body = fresh(p[i].Body)
	}
	return p
}

// mainFunction: all the transactions, and the output.
func mainFunction() api.Func {
	const at = 0
	body := block(
		preimage(num(batchAt), num(wayAt)),
		lay(batchAt, num(0)),
		lay(batchAt+1, num(0)),
	)
	body = append(body, tables()...)
	body = append(body,
		while(below(local(at), num(api.MaxTxs)),
			do(call(fnTransact, local(at))),
			set(at, add(local(at), num(1)))),
		hash(num(rootAt), num(outputAt)),
		give(num(0)),
	)
	return function(0, 1, body...)
}

// transactFunction: the transaction at a place of the list is run; what is not right ends it all.
func transactFunction() api.Func {
	const at, balance, left = 0, 1, 2
	record := func(n int) api.Expr { return word(recordAt + n) }
	place := func(slot int) api.Expr { return further(account(record(fromField)), slot) }
	needed := add(record(txValueField), record(txGasField))
	// Of two bits of the place the higher one is that of the root's halves, so that each stands for four words where it is.
	half := func(up, node int) api.Expr {
		return further(and(shl(num(uint64(up)), local(at)), num(4)), node)
	}
	return function(1, 3,
		preimage(half(0, wayAt), num(wayAt+preSize)),
		preimage(half(1, wayAt+preSize), num(wayAt+2*preSize)),
		preimage(half(2, wayAt+2*preSize), num(recordAt)),
		when(isZero(record(kindField)), give(num(0))),
		when(or(or(above(record(fromField), num(api.MaxAccounts-1)), above(record(toField), num(api.MaxAccounts-1))), above(record(txGasField), num(api.MaxGas))),
			halt(api.ClientBad)),
		when(xor(call(fnRead, place(nonceSlot)), record(nonceField)), give(num(0))),
		when(below(record(txGasField), num(api.Intrinsic)), give(num(0))),
		set(balance, call(fnRead, place(balanceSlot))),
		when(or(below(needed, record(txValueField)), below(local(balance), needed)), give(num(0))),
		do(call(fnUpdate, sub(local(balance), record(txGasField)))),
		do(call(fnMore, place(nonceSlot), num(1))),
		do(call(fnCopy, num(rootAt), num(frameAt+undoField), num(preSize/blockSize))),
		when(call(fnMove, record(fromField), record(toField), record(txValueField)),
			keep(callerField, record(fromField)),
			keep(valueField, record(txValueField)),
			keep(dataField, record(txDataField)),
			keep(gasField, sub(record(txGasField), num(api.Intrinsic))),
			keep(selfField, record(toField)),
			keep(depthField, num(0)),
			do(call(fnEnter)),
			do(call(fnRun)),
			set(left, field(gasField))),
		do(call(fnMore, place(balanceSlot), local(left))),
		do(call(fnMore, num(0), sub(record(txGasField), local(left)))),
	)
}

// moveFunction: from an account to another one a value; 1, if it was moved. The taker's balance isn't read, where the giver's is too little.
func moveFunction() api.Func {
	const from, to, value, giver, taker = 0, 1, 2, 3, 4
	balanceOf := func(n int) api.Expr { return account(local(n)) }
	return function(3, 5,
		set(giver, call(fnRead, balanceOf(from))),
		when(below(local(giver), local(value)), give(num(0))),
		set(taker, call(fnRead, balanceOf(to))),
		when(equal(local(from), local(to)), give(num(1))),
		set(taker, add(local(taker), local(value))),
		when(below(local(taker), local(value)), give(num(0))),
		do(call(fnUpdate, local(taker))),
		do(call(fnRead, balanceOf(from))),
		do(call(fnUpdate, sub(local(giver), local(value)))),
		give(num(1)),
	)
}

// moreFunction: the word at a place is more by a number.
func moreFunction() api.Func {
	const place, v = 0, 1
	return function(2, 2,
		do(call(fnUpdate, add(call(fnRead, local(place)), local(v)))))
}

// copyFunction: blocks from a place to another one.
func copyFunction() api.Func {
	const from, to, blocks = 0, 1, 2
	body := []api.Stmt{}
	for i := range blockSize {
		body = append(body, store(further(local(to), i), wordAt(local(from), i)))
	}
	body = append(body,
		set(from, further(local(from), blockSize)),
		set(to, further(local(to), blockSize)),
		set(blocks, sub(local(blocks), num(1))))
	return function(3, 3, while(local(blocks), body...))
}

// side: where in a preimage on the way to a word that half stands which leads to it; the levels are counted from the root on.
func side(place api.Expr, level int) api.Expr {
	up := level + 3 - api.StateDepth
	shifted := shl(num(uint64(up)), place)
	if up < 0 {
		shifted = shr(num(uint64(-up)), place)
	}
	return further(and(shifted, num(4)), pathAt+level*preSize)
}

// readFunction: the word at a place of the state; the way to it is kept for an update.
func readFunction() api.Func {
	const place, leaf = 0, 1
	last := api.StateDepth - 1
	body := block(preimage(num(rootAt), num(pathAt)))
	for level := range last {
		body = append(body, preimage(side(local(place), level), num(uint64(pathAt+(level+1)*preSize))))
	}
	body = append(body,
		set(leaf, side(local(place), last)),
		when(or(or(wordAt(local(leaf), 0), wordAt(local(leaf), 1)), wordAt(local(leaf), 2)), halt(api.ClientBad)),
		lay(lastAt, local(place)),
		give(wordAt(local(leaf), 3)))
	return function(1, 2, body...)
}

// updateFunction: the word that was read last becomes another one.
func updateFunction() api.Func {
	const v, place = 0, 1
	last := api.StateDepth - 1
	body := block(
		set(place, word(lastAt)),
		store(further(side(local(place), last), 3), local(v)))
	for level := last; level > 0; level-- {
		body = append(body, hash(num(uint64(pathAt+level*preSize)), side(local(place), level-1)))
	}
	body = append(body, hash(num(pathAt), num(rootAt)))
	return function(1, 2, body...)
}
