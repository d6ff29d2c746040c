package stf

import (
	"errors"
	"math/bits"

	"moot/api"
	"moot/evm"
	"moot/state"
)

// The words of an account that a transaction changes by itself.
const (
	balanceSlot = 0
	nonceSlot   = 1
)

// The status of a receipt.
const (
	statusSkipped = iota
	statusDone
	statusFailed
)

// collector is the account that has what gas is used.
const collector = 0

// transact: a transaction is run; its receipt and its messages. An error, if a word can't be read.
func transact(t *state.State, x api.Tx) (api.Receipt, []api.Message, error) {
	if admitted, err := admits(t, x); err != nil || !admitted {
		return api.Receipt{}, nil, err
	}
	if err := add(t, x.From, balanceSlot, -x.Gas); err != nil {
		return api.Receipt{}, nil, err
	}
	if err := add(t, x.From, nonceSlot, 1); err != nil {
		return api.Receipt{}, nil, err
	}
	o, err := deliver(t, x)
	if err != nil {
		return api.Receipt{}, nil, err
	}
	used := x.Gas - o.Gas
	if err := add(t, x.From, balanceSlot, o.Gas); err != nil {
		return api.Receipt{}, nil, err
	}
	if err := add(t, collector, balanceSlot, used); err != nil {
		return api.Receipt{}, nil, err
	}
	receipt := api.Receipt{Status: statusFailed, Used: used, Answer: o.Answer}
	if o.Done {
		receipt.Status = statusDone
	}
	return receipt, o.Messages, nil
}

// admits: is it not skipped? A word is read only if nothing ahead of it skips the transaction.
func admits(t *state.State, x api.Tx) (bool, error) {
	nonce, err := t.Word(x.From, nonceSlot)
	if err != nil || nonce != x.Nonce || x.Gas < api.Intrinsic {
		return false, err
	}
	balance, err := t.Word(x.From, balanceSlot)
	if err != nil {
		return false, err
	}
	needed, carry := bits.Add64(x.Value, x.Gas, 0)
	return carry == 0 && balance >= needed, nil
}

// deliver: the value is moved and To's code is run, or neither.
func deliver(t *state.State, x api.Tx) (evm.Outcome, error) {
	mark := t.Mark()
	err := t.Move(x.From, x.To, x.Value)
	if errors.Is(err, api.ErrRange) {
		return evm.Outcome{Why: err}, t.Back(mark)
	}
	if err != nil {
		return evm.Outcome{}, err
	}
	o, err := runCode(t, x)
	if err != nil {
		return evm.Outcome{}, err
	}
	if !o.Done {
		return o, t.Back(mark)
	}
	return o, t.Keep(mark)
}

func runCode(t *state.State, x api.Tx) (evm.Outcome, error) {
	gas := x.Gas - api.Intrinsic
	code, err := t.Code(x.To)
	if err != nil {
		return evm.Outcome{}, err
	}
	if len(code) == 0 {
		return evm.Outcome{Done: true, Gas: gas}, nil
	}
	return evm.Run(t, evm.Frame{Self: x.To, Caller: x.From, Value: x.Value, Data: x.Data, Gas: gas})
}

// add: modulo 2^64, so that what is less is a number's negative.
func add(t *state.State, account, slot, v uint64) error {
	old, err := t.Word(account, slot)
	if err != nil {
		return err
	}
	return t.Set(account, slot, old+v)
}
