package word

import (
	"errors"
	"math/big"
	"testing"

	"moot/api"
)

const most = 1<<64 - 1
const top = 1 << 63

// samples: edges of words, of signs and of shifts.
var samples = []uint64{0, 1, 2, 3, 7, 8, 9, 55, 56, 63, 64, 65, 127, 128, 255, 256, 513, 1<<32 - 1, 1 << 32, 0x0102030405060708, 0x8877665544332211, top - 1, top, top + 1, most - 6, most - 1, most}

func asBig(v uint64) *big.Int { return new(big.Int).SetUint64(v) }

func signed(v uint64) *big.Int { return big.NewInt(int64(v)) }

func low(x *big.Int) uint64 {
	two64 := new(big.Int).Lsh(big.NewInt(1), 64)
	return new(big.Int).Mod(x, two64).Uint64()
}

func flag(b bool) *big.Int {
	if b {
		return big.NewInt(1)
	}
	return big.NewInt(0)
}

// table: the document's table, over whole numbers without a bound.
func table(op int, a, b, c uint64) *big.Int {
	x, y, z, r := asBig(a), asBig(b), asBig(c), new(big.Int)
	sx, sy := signed(a), signed(b)
	switch op {
	case 1:
		return r.Add(x, y)
	case 2:
		return r.Sub(x, y)
	case 3:
		return r.Mul(x, y)
	case 4, 5, 6, 7:
		if b == 0 {
			return r
		}
		return map[int]func() *big.Int{4: func() *big.Int { return r.Quo(x, y) }, 5: func() *big.Int { return r.Quo(sx, sy) }, 6: func() *big.Int { return r.Rem(x, y) }, 7: func() *big.Int { return r.Rem(sx, sy) }}[op]()
	case 8, 9:
		if c == 0 {
			return r
		}
		if op == 8 {
			return r.Mod(r.Add(x, y), z)
		}
		return r.Mod(r.Mul(x, y), z)
	case 10:
		return r.Exp(x, y, new(big.Int).Lsh(big.NewInt(1), 64))
	}
	return tableOfBits(op, a, b)
}

func tableOfBits(op int, a, b uint64) *big.Int {
	x, y, r := asBig(a), asBig(b), new(big.Int)
	sx, sy := signed(a), signed(b)
	switch op {
	case 11:
		if a >= 7 {
			return y
		}
		for i := 0; i < 64; i++ {
			from := i
			if from > int(8*a+7) {
				from = int(8*a + 7)
			}
			r.SetBit(r, i, y.Bit(from))
		}
		return r
	case 12:
		if a > 7 {
			return r
		}
		return big.NewInt(int64(y.FillBytes(make([]byte, 8))[a]))
	case 13, 14, 15:
		n := uint(64)
		if a < 64 {
			n = uint(a)
		}
		if op == 13 {
			return r.Lsh(y, n)
		}
		if op == 14 {
			return r.Rsh(y, n)
		}
		return r.Rsh(sy, n)
	case 16, 17:
		return flag(x.Cmp(y) == map[int]int{16: -1, 17: 1}[op])
	case 18, 19:
		return flag(sx.Cmp(sy) == map[int]int{18: -1, 19: 1}[op])
	case 20:
		return flag(a == b)
	case 21:
		return flag(a == 0)
	case 22:
		return r.And(x, y)
	case 23:
		return r.Or(x, y)
	case 24:
		return r.Xor(x, y)
	}
	return r.Not(x)
}

// P1.1: each operation, over all pairs of edges.
func TestApplyIsTheTable(t *testing.T) {
	for op := 1; op <= 25; op++ {
		for _, a := range samples {
			for _, b := range samples {
				for _, c := range []uint64{0, 1, 7, top, most} {
					got, err := Apply(op, a, b, c)
					if want := low(table(op, a, b, c)); got != want || err != nil {
						t.Fatalf("%d of %d, %d, %d: %d, %v; want %d", op, a, b, c, got, err, want)
					}
				}
			}
		}
	}
}

// P1.1: the document's examples.
func TestApplyExamples(t *testing.T) {
	for _, c := range []struct {
		op            int
		a, b, c, want uint64
	}{
		{5, most - 6, 2, 0, most - 2}, {7, most - 6, 2, 0, most},
		{8, most, most, 7, 2}, {9, most, most, 7, 1},
		{11, 0, 255, 0, most}, {11, 0, 127, 0, 127}, {11, 9, 255, 0, 255},
		{12, 7, 513, 0, 1}, {12, 8, 513, 0, 0},
		{15, 1, top, 0, 3 << 62}, {15, 64, top, 0, most}, {13, 64, 1, 0, 0},
		{5, top, most, 0, top}, {7, top, most, 0, 0}, {10, 0, 0, 0, 1}, {10, 3, 40, 0, 12157665459056928801},
	} {
		if v, err := Apply(c.op, c.a, c.b, c.c); v != c.want || err != nil {
			t.Errorf("%d of %d, %d, %d: %d, %v; want %d", c.op, c.a, c.b, c.c, v, err, c.want)
		}
	}
}

// P1.1: what is no operation, and how many operands the others look at.
func TestArgs(t *testing.T) {
	for _, op := range []int{-1 << 63, -1, 0, 26, 255, 1<<63 - 1} {
		if v, err := Apply(op, 1, 2, 3); v != 0 || err != api.ErrOp {
			t.Errorf("Apply %d: %d, %v", op, v, err)
		}
		if n, err := Args(op); n != 0 || err != api.ErrOp {
			t.Errorf("Args %d: %d, %v", op, n, err)
		}
	}
	for op := 1; op <= 25; op++ {
		want := 2
		switch op {
		case 8, 9:
			want = 3
		case 21, 25:
			want = 1
		}
		if n, err := Args(op); n != want || err != nil {
			t.Errorf("Args %d: %d, %v; want %d", op, n, err, want)
		}
	}
}

// P1.1: operands that are not looked at do not tell.
func TestOperandsBeyondArgs(t *testing.T) {
	for op := 1; op <= 25; op++ {
		n, _ := Args(op)
		base := [3]uint64{9, 5, 4}
		want, _ := Apply(op, base[0], base[1], base[2])
		for i := n; i < 3; i++ {
			other := base
			other[i] = most
			if v, _ := Apply(op, other[0], other[1], other[2]); v != want {
				t.Errorf("%d looks at operand %d", op, i)
			}
		}
	}
}

// P1.2: the whole product, and its way back.
func TestWideAndSplit(t *testing.T) {
	two64 := new(big.Int).Lsh(big.NewInt(1), 64)
	for _, a := range samples {
		for _, b := range samples {
			h, l := Wide(a, b)
			whole := new(big.Int).Add(new(big.Int).Mul(asBig(h), two64), asBig(l))
			if whole.Cmp(new(big.Int).Mul(asBig(a), asBig(b))) != 0 {
				t.Fatalf("Wide %d, %d: %d, %d", a, b, h, l)
			}
			for _, n := range samples {
				checkSplit(t, a, b, n)
			}
		}
	}
	if h, l := Wide(top, 6); h != 3 || l != 0 {
		t.Errorf("Wide: %d, %d", h, l)
	}
	if q, r, err := Split(3, 0, 4); q != 3<<62 || r != 0 || err != nil {
		t.Errorf("Split: %d, %d, %v", q, r, err)
	}
}

func checkSplit(t *testing.T, high, low, n uint64) {
	t.Helper()
	q, r, err := Split(high, low, n)
	if n <= high {
		if q != 0 || r != 0 || !errors.Is(err, api.ErrRange) {
			t.Fatalf("Split %d, %d, %d: %d, %d, %v", high, low, n, q, r, err)
		}
		return
	}
	whole := new(big.Int).Add(new(big.Int).Lsh(asBig(high), 64), asBig(low))
	wantQ, wantR := new(big.Int).QuoRem(whole, asBig(n), new(big.Int))
	if asBig(q).Cmp(wantQ) != 0 || asBig(r).Cmp(wantR) != 0 || err != nil {
		t.Fatalf("Split %d, %d, %d: %d, %d, %v", high, low, n, q, r, err)
	}
}
