package tx

import (
	"bytes"
	"errors"
	"testing"

	"moot/api"
	"moot/keccak"
	"moot/rlp"
)

var plain = api.Tx{From: 1, To: 2, Nonce: 0, Value: 300, Gas: 9, Data: 0}
var plainBytes = []byte{200, 1, 2, 128, 130, 1, 44, 9, 128}

func number(v uint64) api.Item { return rlp.Number(v) }

func listOf(items ...api.Item) []byte {
	b, err := rlp.Encode(api.Item{List: true, Items: items})
	if err != nil {
		panic(err)
	}
	return b
}

// P4.1: bytes and back, at the bounds.
func TestEncodeAndDecode(t *testing.T) {
	if b, err := Encode(plain); !bytes.Equal(b, plainBytes) || err != nil {
		t.Errorf("Encode: %v, %v", b, err)
	}
	const most = 1<<64 - 1
	for _, x := range []api.Tx{plain, {}, {From: 63, To: 63, Nonce: most, Value: most, Gas: 96, Data: most}} {
		b, err := Encode(x)
		if err != nil {
			t.Fatal(err)
		}
		want := listOf(number(x.From), number(x.To), number(x.Nonce), number(x.Value), number(x.Gas), number(x.Data))
		if !bytes.Equal(b, want) {
			t.Errorf("Encode %v: %v", x, b)
		}
		if back, err := Decode(b); back != x || err != nil {
			t.Errorf("Decode %v: %v, %v", b, back, err)
		}
	}
	for _, x := range []api.Tx{{From: 64}, {To: 64}, {Gas: 97}, {From: 1<<64 - 1}} {
		if b, err := Encode(x); b != nil || err != api.ErrRange {
			t.Errorf("Encode %v: %v, %v", x, b, err)
		}
	}
}

// P4.1: each wrong field at its place, the first one of several.
func TestDecodeFaults(t *testing.T) {
	good := []api.Item{number(1), number(2), number(0), number(300), number(9), number(0)}
	with := func(changes map[int]api.Item) []byte {
		items := append([]api.Item(nil), good...)
		for i, x := range changes {
			items[i] = x
		}
		return listOf(items...)
	}
	aList, nought, nine := api.Item{List: true}, api.Item{Bytes: []byte{0}}, api.Item{Bytes: bytes.Repeat([]byte{1}, 9)}
	for _, c := range []struct {
		b   []byte
		at  int
		why error
	}{
		{with(map[int]api.Item{0: number(64)}), 0, api.ErrRange}, {with(map[int]api.Item{1: number(64)}), 1, api.ErrRange},
		{with(map[int]api.Item{4: number(97)}), 4, api.ErrRange}, {with(map[int]api.Item{3: aList}), 3, api.ErrShape},
		{with(map[int]api.Item{5: aList}), 5, api.ErrShape}, {with(map[int]api.Item{2: nought}), 2, api.ErrForm},
		{with(map[int]api.Item{3: nine}), 3, api.ErrForm}, {with(map[int]api.Item{1: aList, 4: number(97)}), 1, api.ErrShape},
		{with(map[int]api.Item{0: number(64), 1: aList}), 0, api.ErrRange}, {with(map[int]api.Item{4: nine, 5: aList}), 4, api.ErrForm},
		{[]byte{193, 129, 7}, 1, api.ErrEnd}, {nil, 0, api.ErrEnd}, {append(bytes.Clone(plainBytes), 0), 9, api.ErrEnd},
	} {
		x, err := Decode(c.b)
		var f *api.Fault
		if x != (api.Tx{}) || !errors.As(err, &f) || f.At != c.at || !errors.Is(err, c.why) {
			t.Errorf("Decode %v: %v, %v; want %v at %d", c.b, x, err, c.why, c.at)
		}
	}
	for _, b := range [][]byte{listOf(good[:5]...), listOf(append(good[:6:6], number(0))...), {7}, {192}} {
		x, err := Decode(b)
		var f *api.Fault
		if x != (api.Tx{}) || err != error(api.ErrShape) || errors.As(err, &f) {
			t.Errorf("Decode %v: %v, %v", b, x, err)
		}
	}
}

// P4.2: batches of what is a transaction and of what is none.
func TestBatchAndUnbatch(t *testing.T) {
	second := api.Tx{From: 3, To: 4, Gas: 5}
	secondBytes, _ := Encode(second)
	b, err := Batch([][]byte{plainBytes, {}, secondBytes, {1, 2, 3}})
	if err != nil || !bytes.Equal(b, listOf(api.Item{Bytes: plainBytes}, api.Item{}, api.Item{Bytes: secondBytes}, api.Item{Bytes: []byte{1, 2, 3}})) {
		t.Fatalf("Batch: %v, %v", b, err)
	}
	list, others, err := Unbatch(b)
	if len(list) != 2 || list[0] != plain || list[1] != second || len(others) != 2 || others[0] != 1 || others[1] != 3 || err != nil {
		t.Errorf("Unbatch: %v, %v, %v", list, others, err)
	}
	items := []api.Item{{Bytes: plainBytes}, {}, {List: true}}
	if list, others, err := Unbatch(listOf(items...)); len(list) != 1 || list[0] != plain || len(others) != 2 || others[0] != 1 || others[1] != 2 || err != nil {
		t.Errorf("Unbatch: %v, %v, %v", list, others, err)
	}
	// A list whose form is a transaction's is no bytes of one.
	whole, _ := rlp.Decode(plainBytes)
	if list, others, err := Unbatch(listOf(whole)); len(list) != 0 || len(others) != 1 || err != nil {
		t.Errorf("Unbatch of a list: %v, %v, %v", list, others, err)
	}
	if list, others, err := Unbatch([]byte{192}); len(list) != 0 || len(others) != 0 || err != nil {
		t.Errorf("Unbatch of none: %v, %v, %v", list, others, err)
	}
}

// P4.2: the bounds of a batch.
func TestBatchErrors(t *testing.T) {
	if _, err := Batch(make([][]byte, 8)); err != nil {
		t.Error(err)
	}
	if b, err := Batch(make([][]byte, 9)); b != nil || err != api.ErrFull {
		t.Errorf("%v, %v", b, err)
	}
	if b, err := Batch([][]byte{make([]byte, 4096)}); b != nil || err != api.ErrFull {
		t.Errorf("%v, %v", b, err)
	}
	many := listOf(make([]api.Item, 9)...)
	for _, c := range []struct {
		b    []byte
		want error
	}{{[]byte{7}, api.ErrShape}, {[]byte{128}, api.ErrShape}, {many, api.ErrFull}, {[]byte{194, 7}, api.ErrEnd}, {nil, api.ErrEnd}, {make([]byte, 4097), api.ErrFull}} {
		list, others, err := Unbatch(c.b)
		if len(list) != 0 || len(others) != 0 || !errors.Is(err, c.want) {
			t.Errorf("Unbatch of %d bytes: %v, %v, %v", len(c.b), list, others, err)
		}
	}
	if _, others, err := Unbatch(listOf(make([]api.Item, 8)...)); len(others) != 8 || err != nil {
		t.Errorf("Unbatch of 8: %v, %v", others, err)
	}
}

// P4.3: records and commitments.
func TestRecordAndCommit(t *testing.T) {
	x := api.Tx{From: 1, To: 2, Nonce: 3, Value: 0x0102030405060708, Gas: 5, Data: 6}
	want := api.Pre{7: 1, 15: 1, 23: 2, 31: 3, 32: 1, 33: 2, 34: 3, 35: 4, 36: 5, 37: 6, 38: 7, 39: 8, 47: 5, 55: 6}
	if Record(x) != want {
		t.Errorf("Record: %v", Record(x))
	}
	wrong := api.Tx{From: 99, Gas: 1 << 40}
	if p := Record(wrong); p[15] != 99 || p[42] != 1 {
		t.Errorf("Record of a wrong one: %v", p)
	}
	lists := [][]api.Tx{nil, {x}, {x, plain, wrong}, make([]api.Tx, 8), {plain, x, x, plain, wrong, x, plain, x}}
	for _, list := range lists {
		var level []api.Hash
		for i := range 8 {
			p := api.Pre{}
			if i < len(list) {
				p = Record(list[i])
			}
			level = append(level, keccak.Sum(p[:]))
		}
		for len(level) > 1 {
			var next []api.Hash
			for i := 0; i < len(level); i += 2 {
				next = append(next, keccak.Pair(level[i], level[i+1]))
			}
			level = next
		}
		if got, err := Commit(list); got != level[0] || err != nil {
			t.Errorf("Commit of %d: %x, %v", len(list), got, err)
		}
	}
	if got, err := Commit(make([]api.Tx, 9)); got != (api.Hash{}) || err != api.ErrFull {
		t.Errorf("Commit of 9: %x, %v", got, err)
	}
}
