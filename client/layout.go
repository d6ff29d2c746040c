package client

import (
	"moot/api"
	"moot/grammar"
)

// Where things stand in the program's memory. The root and the outbox are the halves of the output, and the outbox and what is behind it those of a longer one.
const (
	rootAt   = 0
	outAt    = 4
	batchAt  = 8 // is read once; then the message stands here that goes into the outbox
	outputAt = 24
)

const (
	pathAt    = 32                              // the preimages on the way to the word that was read last
	wayAt     = pathAt + api.StateDepth*preSize // those on the way to a transaction
	recordAt  = wayAt + api.BatchDepth*preSize  // the transaction's record
	pairAt    = recordAt + preSize              // two words as leaves, and behind them their digest
	shapesAt  = pairAt + preSize + preSize      // what is known of the operations, four a word
	behindAt  = shapesAt + shapeWords           // how many bytes stand behind some of them
	lastAt    = behindAt + operandKinds         // the place of the word that was read last
	statusAt  = lastAt + 1                      // how the frame has ended
	resultAt  = statusAt + 1                    // its answer
	frameAt   = resultAt + 1                    // the frame that is run
	savedAt   = frameAt + frameSize             // those that wait for it
	noughtsAt = savedAt + frameSize*waitingMost // words that nobody writes
	aheadAt   = noughtsAt + freshSize           // root and outbox ahead of a call
)

const (
	preSize      = 8
	blockSize    = 4 // how many words are copied at a time
	shapeWords   = 14
	operandKinds = 5
	waitingMost  = api.MaxFrames - 1
)

// Where the fields of a frame stand in it; the first five as the operations follow one another that ask for them.
const (
	callerField = iota
	valueField
	dataField
	gasField
	selfField
	answerField
	pcField
	heightField // of the stack
	depthField
	destsField // a bit for each byte that may be jumped to
)

const (
	undoField   = 12 // root and outbox, as they are again if the frame fails
	memoryField = undoField + preSize
	stackField  = memoryField + api.MaxMemory
	codeField   = stackField + api.MaxStack
	codeRoom    = 12 // with noughts behind the longest code
	frameSize   = codeField + codeRoom
	freshSize   = frameSize - memoryField // what is noughts when a frame begins
)

// How a frame has ended.
const (
	running = iota
	finished
	failed
	reverted
)

// Where the fields of a record stand.
const (
	kindField = iota
	fromField
	toField
	nonceField
	txValueField
	txGasField
	txDataField
)

// The words of an account.
const (
	accountBits = 5 // so many bits tell one from the others
	balanceSlot = 0
	nonceSlot   = 1
	lengthSlot  = 2
	codeSlot    = 16
	storageSlot = 24
)

// The operations of account code that the program tells apart.
const (
	opStop = 0
	opWord = grammar.Add // and the further ones of layer 1
)

const (
	opPush = 32 + iota
	opPush8
	opPop
	opDup
	opSwap
	opMload
	opMstore
	opSload
	opSstore
	opJump
	opJumpi
	opJumpdest
	opTold // five that ask for a frame's fields
)

const (
	opBalance = 49 + iota
	opHash
	opLog
	opCall
	opAnswer
	opReturn
	opRevert
)
