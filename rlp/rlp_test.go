package rlp

import (
	"bytes"
	"errors"
	"math/rand"
	"reflect"
	"testing"

	"moot/api"
)

func text(b ...byte) api.Item { return api.Item{Bytes: b} }

func list(items ...api.Item) api.Item { return api.Item{List: true, Items: items} }

func stretch(n int) api.Item { return text(bytes.Repeat([]byte{9}, n)...) }

func nested(n int, x api.Item) api.Item {
	for range n {
		x = list(x)
	}
	return x
}

// same: are they one item, nil lists and empty ones being one?
func same(a, b api.Item) bool {
	if a.List != b.List || !bytes.Equal(a.Bytes, b.Bytes) || len(a.Items) != len(b.Items) {
		return false
	}
	for i := range a.Items {
		if !same(a.Items[i], b.Items[i]) {
			return false
		}
	}
	return true
}

// P3.1: the forms, about all edges of lengths.
func TestEncodeForms(t *testing.T) {
	for _, c := range []struct {
		x    api.Item
		want []byte
	}{
		{text(7), []byte{7}}, {text(0), []byte{0}}, {text(127), []byte{127}},
		{text(128), []byte{129, 128}}, {text(), []byte{128}}, {Number(1024), []byte{130, 4, 0}},
		{list(), []byte{192}}, {list(text(7), text()), []byte{194, 7, 128}},
		{stretch(55), append([]byte{183}, stretch(55).Bytes...)},
		{stretch(56), append([]byte{184, 56}, stretch(56).Bytes...)},
		{stretch(255), append([]byte{184, 255}, stretch(255).Bytes...)},
		{stretch(256), append([]byte{185, 1, 0}, stretch(256).Bytes...)},
		{list(stretch(54)), append([]byte{247, 182}, stretch(54).Bytes...)},
		{list(stretch(55)), append([]byte{248, 56, 183}, stretch(55).Bytes...)},
		{list(stretch(56)), append([]byte{248, 58, 184, 56}, stretch(56).Bytes...)},
		{list(stretch(300)), append([]byte{249, 1, 47, 185, 1, 44}, stretch(300).Bytes...)},
		{nested(2, list()), []byte{194, 193, 192}},
	} {
		got, err := Encode(c.x)
		if !bytes.Equal(got, c.want) || err != nil {
			t.Errorf("Encode %v: %v, %v; want %v", c.x, got, err, c.want)
		}
		back, err := Decode(c.want)
		if !same(back, c.x) || err != nil {
			t.Errorf("Decode %v: %v, %v", c.want, back, err)
		}
	}
}

// P3.1: what has no form, and which error comes first.
func TestEncodeErrors(t *testing.T) {
	mixed := api.Item{List: true, Bytes: []byte{1}}
	hidden := api.Item{Items: []api.Item{text(1)}}
	for _, c := range []struct {
		x    api.Item
		want error
	}{
		{nested(16, text(1)), api.ErrDeep}, {nested(15, text(1)), nil}, {nested(15, list()), nil}, {nested(16, list()), api.ErrDeep},
		{nested(14, hidden), api.ErrShape}, {nested(15, hidden), api.ErrDeep},
		{mixed, api.ErrShape}, {hidden, api.ErrShape}, {list(text(1), mixed), api.ErrShape}, {list(text(1), hidden), api.ErrShape},
		{list(mixed, nested(16, text())), api.ErrDeep}, {list(mixed, stretch(5000)), api.ErrShape},
		{stretch(4093), nil}, {stretch(4094), api.ErrFull}, {list(stretch(4090)), nil}, {list(stretch(4091)), api.ErrFull},
		{list(stretch(4096), nested(16, text())), api.ErrDeep},
	} {
		got, err := Encode(c.x)
		if err != c.want || err != nil && got != nil {
			t.Errorf("Encode of %d bytes, %d items: %v; want %v", len(c.x.Bytes), len(c.x.Items), err, c.want)
		}
	}
}

func checkFault(t *testing.T, b []byte, at int, why error) {
	t.Helper()
	x, err := Decode(b)
	var f *api.Fault
	if !errors.As(err, &f) || f.At != at || !errors.Is(err, why) || !reflect.DeepEqual(x, api.Item{}) {
		t.Errorf("Decode % d: %v, %v; want %v at %d", b[:min(len(b), 12)], x, err, why, at)
	}
}

// P3.2: each fault, at its place, in its order.
func TestDecodeFaults(t *testing.T) {
	fill := func(head []byte, n int) []byte { return append(head, make([]byte, n)...) }
	for _, c := range []struct {
		b   []byte
		at  int
		why error
	}{
		{nil, 0, api.ErrEnd}, {[]byte{129, 7}, 0, api.ErrForm}, {[]byte{129, 127}, 0, api.ErrForm}, {fill([]byte{184, 7}, 7), 0, api.ErrForm},
		{[]byte{130, 4}, 0, api.ErrEnd}, {[]byte{194, 7}, 0, api.ErrEnd}, {[]byte{193, 129, 7}, 1, api.ErrEnd},
		{[]byte{7, 8}, 1, api.ErrEnd}, {[]byte{194, 129, 7}, 1, api.ErrForm}, {[]byte{194, 129, 7, 9}, 1, api.ErrForm},
		{[]byte{129}, 0, api.ErrEnd}, {[]byte{184}, 0, api.ErrEnd}, {[]byte{185, 1}, 0, api.ErrEnd}, {[]byte{184, 7}, 0, api.ErrEnd},
		{fill([]byte{184, 55}, 55), 0, api.ErrForm}, {fill([]byte{184, 55}, 54), 0, api.ErrEnd}, {fill([]byte{185, 0, 60}, 60), 0, api.ErrForm},
		{fill([]byte{185, 0, 60}, 59), 0, api.ErrEnd}, {fill([]byte{248, 55}, 55), 0, api.ErrForm}, {fill([]byte{249, 0, 60}, 60), 0, api.ErrForm},
		{[]byte{248, 56}, 0, api.ErrEnd}, {[]byte{191, 255, 255, 255, 255, 255, 255, 255, 255, 1}, 0, api.ErrEnd},
		{[]byte{255, 255, 255, 255, 255, 255, 255, 255, 255, 1}, 0, api.ErrEnd}, {[]byte{195, 193, 129, 7}, 2, api.ErrEnd},
		{[]byte{196, 193, 7, 129, 7}, 3, api.ErrForm}, {[]byte{192, 192}, 1, api.ErrEnd}, {make([]byte, 4097), 0, api.ErrFull},
		{[]byte{184, 0}, 0, api.ErrForm}, {[]byte{185, 0, 0}, 0, api.ErrForm}, {[]byte{248, 0}, 0, api.ErrForm},
		{[]byte{193, 184}, 1, api.ErrEnd}, {[]byte{193, 184, 0}, 1, api.ErrEnd},
	} {
		checkFault(t, c.b, c.at, c.why)
	}
}

// P3.2: sixteen lists within one another are the most; what stands in them is not looked at any more.
func TestDecodeNesting(t *testing.T) {
	deep := func(n int, inner ...byte) []byte {
		for range n {
			inner = append([]byte{byte(192 + len(inner))}, inner...)
		}
		return inner
	}
	for n, inner := range map[int][]byte{15: {192}, 14: {193, 7}} {
		if _, err := Decode(deep(n, inner...)); err != nil {
			t.Errorf("%d lists: %v", n, err)
		}
	}
	checkFault(t, deep(16, 7), 16, api.ErrDeep)
	checkFault(t, deep(16, 192), 16, api.ErrDeep)
	checkFault(t, deep(16, 129), 16, api.ErrDeep)
	checkFault(t, deep(16, 129, 7), 16, api.ErrDeep)
	if _, err := Decode(deep(16)); err != nil {
		t.Errorf("16 lists, the last one without items: %v", err)
	}
}

// P3.2: the longest form, and the length as the only fault where it is too long.
func TestDecodeLongest(t *testing.T) {
	b, err := Encode(stretch(4093))
	if err != nil || len(b) != 4096 {
		t.Fatal(len(b), err)
	}
	if x, err := Decode(b); !same(x, stretch(4093)) || err != nil {
		t.Error(err)
	}
	checkFault(t, append(b, 0), 0, api.ErrFull)
}

// P3.2: whatever is decoded has just those bytes as its form, and is new memory.
func TestDecodeIsTheWayBack(t *testing.T) {
	r := rand.New(rand.NewSource(3))
	heads := []byte{0, 7, 127, 128, 129, 130, 183, 184, 185, 192, 193, 194, 195, 200, 247, 248}
	good := 0
	for range 200000 {
		b := make([]byte, 1+r.Intn(9))
		for i := range b {
			b[i] = heads[r.Intn(len(heads))]
		}
		before := bytes.Clone(b)
		x, err := Decode(b)
		if !bytes.Equal(b, before) {
			t.Fatal("Decode changed what it was handed")
		}
		if err != nil {
			continue
		}
		good++
		clear(b)
		if form, err := Encode(x); !bytes.Equal(form, before) || err != nil {
			t.Fatalf("% d decodes, but its form is % d, %v", before, form, err)
		}
	}
	if good < 1000 {
		t.Fatalf("only %d were forms", good)
	}
}

// P3.3: numbers, and what is none.
func TestNumbers(t *testing.T) {
	for _, v := range []uint64{0, 1, 127, 128, 255, 256, 1024, 1<<56 - 1, 1 << 56, 1<<64 - 1} {
		x := Number(v)
		if x.List || len(x.Items) > 0 || len(x.Bytes) > 0 && x.Bytes[0] == 0 {
			t.Errorf("Number %d: %v", v, x)
		}
		if back, err := Value(x); back != v || err != nil {
			t.Errorf("Value of %v: %d, %v", x, back, err)
		}
	}
	if len(Number(0).Bytes) != 0 || !bytes.Equal(Number(1024).Bytes, []byte{4, 0}) {
		t.Error("Number has other bytes than are needed")
	}
	for _, c := range []struct {
		x    api.Item
		want error
	}{
		{list(), api.ErrShape}, {list(text(0)), api.ErrShape}, {api.Item{List: true, Bytes: []byte{0}}, api.ErrShape},
		{text(0), api.ErrForm}, {text(0, 1), api.ErrForm}, {text(1, 2, 3, 4, 5, 6, 7, 8, 9), api.ErrForm},
	} {
		if v, err := Value(c.x); v != 0 || err != c.want {
			t.Errorf("Value of %v: %d, %v; want %v", c.x, v, err, c.want)
		}
	}
}
