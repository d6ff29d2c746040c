package wordbytes

import (
	"testing"

	"moot/api"
)

func TestPutAndGet(t *testing.T) {
	b := make([]byte, 24)
	Put(b, 1, 0x0102030405060708)
	for i, v := range b {
		want := byte(0)
		if i >= 8 && i < 16 {
			want = byte(i - 7)
		}
		if v != want {
			t.Errorf("byte %d: %d", i, v)
		}
	}
	if Get(b, 0) != 0 || Get(b, 1) != 0x0102030405060708 || Get(b, 2) != 0 {
		t.Error("Get is not the way back")
	}
}

func TestLeaf(t *testing.T) {
	if Leaf(0x0102) != (api.Hash{30: 1, 31: 2}) {
		t.Errorf("%x", Leaf(0x0102))
	}
}
