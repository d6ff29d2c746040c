package rlp

import "moot/api"

// head is what an item's first bytes tell: is it a list, how many bytes they are, how many stand behind them.
type head struct {
	list    bool
	skip, n int
}

// Decode: the item of bytes. Faults of ErrFull, ErrDeep, ErrEnd, ErrForm.
func Decode(b []byte) (api.Item, error) {
	if len(b) > api.MaxRLP {
		return api.Item{}, &api.Fault{At: 0, Why: api.ErrFull}
	}
	if len(b) == 0 {
		return api.Item{}, &api.Fault{At: 0, Why: api.ErrEnd}
	}
	x, end, err := item(b, 0, 0)
	if err != nil {
		return api.Item{}, err
	}
	if end < len(b) {
		return api.Item{}, &api.Fault{At: end, Why: api.ErrEnd}
	}
	return x, nil
}

// item: the one whose first byte stands at a place of b, which ends where the list ends that it stands in; and the place behind it.
func item(b []byte, at, lists int) (api.Item, int, error) {
	if lists >= api.MaxNesting {
		return api.Item{}, 0, &api.Fault{At: at, Why: api.ErrDeep}
	}
	h, err := headOf(b[at:])
	if err != nil {
		return api.Item{}, 0, &api.Fault{At: at, Why: err}
	}
	begin := at + h.skip
	end := begin + h.n
	if !h.list {
		return api.Item{Bytes: append([]byte(nil), b[begin:end]...)}, end, nil
	}
	x := api.Item{List: true}
	for begin < end {
		part, next, err := item(b[:end], begin, lists+1)
		if err != nil {
			return api.Item{}, 0, err
		}
		x.Items = append(x.Items, part)
		begin = next
	}
	return x, end, nil
}

// headOf: of bytes that are one at least. ErrEnd, ErrForm.
func headOf(b []byte) (head, error) {
	first := int(b[0])
	switch {
	case first < bytesShort:
		return head{n: 1}, nil
	case first <= bytesLong:
		h, err := short(b, first-bytesShort)
		if err == nil && h.n == 1 && b[1] < bytesShort {
			return head{}, api.ErrForm
		}
		return h, err
	case first < listShort:
		return long(b, first-bytesLong)
	case first <= listLong:
		h, err := short(b, first-listShort)
		h.list = true
		return h, err
	}
	h, err := long(b, first-listLong)
	h.list = true
	return h, err
}

func short(b []byte, n int) (head, error) {
	if n > len(b)-1 {
		return head{}, api.ErrEnd
	}
	return head{skip: 1, n: n}, nil
}

// long: the length stands in k bytes behind the first one.
func long(b []byte, k int) (head, error) {
	if k > len(b)-1 {
		return head{}, api.ErrEnd
	}
	n := number(b[1 : 1+k])
	if n > uint64(len(b)-1-k) {
		return head{}, api.ErrEnd
	}
	if b[1] == 0 || n < shortest {
		return head{}, api.ErrForm
	}
	return head{skip: 1 + k, n: int(n)}, nil
}
