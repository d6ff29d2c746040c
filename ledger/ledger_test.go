package ledger

import (
	"math/rand"
	"testing"

	"moot/api"
)

const top = 1 << 48

func want(t *testing.T, l *Ledger, player int, balance uint64) {
	t.Helper()
	if got, err := l.Balance(player); got != balance || err != nil {
		t.Errorf("player %d: %d, %v; want %d", player, got, err, balance)
	}
}

// P18: the document's examples.
func TestExamples(t *testing.T) {
	l := New()
	if err := l.PayIn(1, 10); err != nil {
		t.Error(err)
	}
	if n, err := l.Lock(1, 4); n != 0 || err != nil {
		t.Errorf("%d, %v", n, err)
	}
	want(t, l, 1, 6)
	if l.Locked() != 4 || l.Give(0, 2) != nil {
		t.Error(l.Locked())
	}
	want(t, l, 2, 4)
	if l.Give(0, 2) != api.ErrTwice || l.PayOut(2, 5) != api.ErrFunds || l.PayOut(2, 4) != nil {
		t.Error("Give or PayOut")
	}
	if in, out := l.Flows(); in != 10 || out != 4 || l.Locked() != 0 {
		t.Error(in, out)
	}
}

// P18.1 to P18.3: a nil ledger, and players that are none, ahead of all else.
func TestNilAndPlayers(t *testing.T) {
	var none *Ledger
	l := New()
	for _, player := range []int{-1, 8, 1 << 62} {
		for x, want := range map[*Ledger]error{none: api.ErrNil, l: api.ErrRange} {
			n, lock := x.Lock(player, 1)
			b, balance := x.Balance(player)
			for i, err := range []error{x.PayIn(player, top+1), x.PayOut(player, 1), lock, x.Give(5, player), balance} {
				if err != want || n != 0 || b != 0 {
					t.Errorf("%d of %d: %v", i, player, err)
				}
			}
		}
	}
	if in, out := none.Flows(); in != 0 || out != 0 || none.Locked() != 0 {
		t.Error("nil is not none")
	}
	if l.Give(0, 0) != api.ErrNone || l.Give(-1, 0) != api.ErrNone || l.Give(1<<62, 0) != api.ErrNone {
		t.Error("a bond that there is not")
	}
}

// P18.1: 2^48 is the most that can be paid in, by all together; what was paid out counts still.
func TestPaidIn(t *testing.T) {
	l := New()
	if l.PayIn(0, top+1) != api.ErrRange || l.PayIn(0, 1<<64-1) != api.ErrRange || l.PayIn(0, top-5) != nil {
		t.Error("one")
	}
	if l.PayIn(1, 6) != api.ErrRange || l.PayIn(1, 1<<64-1) != api.ErrRange || l.PayIn(1, 5) != nil || l.PayIn(2, 0) != nil || l.PayIn(2, 1) != api.ErrRange {
		t.Error("two")
	}
	if l.PayOut(1, 5) != nil || l.PayIn(1, 1) != api.ErrRange {
		t.Error("behind a PayOut")
	}
	want(t, l, 0, top-5)
	want(t, l, 1, 0)
}

// P18.2: as many bonds as there may be.
func TestBonds(t *testing.T) {
	l := New()
	l.PayIn(3, 100)
	for i := range 1 << 16 {
		if n, err := l.Lock(3, 0); n != i || err != nil {
			t.Fatalf("%d: %d, %v", i, n, err)
		}
	}
	if n, err := l.Lock(3, 1); n != 0 || err != api.ErrFull {
		t.Errorf("%d, %v", n, err)
	}
	if n, err := l.Lock(3, 101); n != 0 || err != api.ErrFunds {
		t.Errorf("%d, %v", n, err)
	}
	if n, err := New().Lock(3, 0); n != 0 || err != nil {
		t.Errorf("nothing of nothing: %d, %v", n, err)
	}
	all := New()
	all.PayIn(3, 5)
	if n, err := all.Lock(3, 5); n != 0 || err != nil || all.Locked() != 5 {
		t.Errorf("all of it: %d, %v", n, err)
	}
	if l.Give(1<<16-1, 3) != nil || l.Give(1<<16, 3) != api.ErrNone {
		t.Error("the last one")
	}
	if _, err := l.Lock(3, 1); err != api.ErrFull {
		t.Errorf("a bond that was given counts still: %v", err)
	}
	want(t, l, 3, 100)
}

// P18, P6: what was paid in is paid out, locked, or a balance; no bond is given twice.
func TestSums(t *testing.T) {
	r := rand.New(rand.NewSource(18))
	l := New()
	given := map[int]int{}
	bonds := 0
	for range 20000 {
		player, v := r.Intn(8), uint64(r.Intn(50))
		switch r.Intn(5) {
		case 0:
			l.PayIn(player, v)
		case 1:
			l.PayOut(player, v)
		case 2, 3:
			if n, err := l.Lock(player, v); err == nil {
				if n != bonds {
					t.Fatalf("bond %d; want %d", n, bonds)
				}
				bonds++
			}
		case 4:
			n := r.Intn(bonds + 3)
			err := l.Give(n, player)
			switch {
			case n >= bonds && err != api.ErrNone, n < bonds && given[n] > 0 && err != api.ErrTwice, n < bonds && given[n] == 0 && err != nil:
				t.Fatalf("Give %d: %v", n, err)
			case err == nil:
				given[n]++
			}
		}
		in, out := l.Flows()
		sum := out + l.Locked()
		for p := range 8 {
			b, _ := l.Balance(p)
			sum += b
		}
		if sum != in {
			t.Fatalf("%d; want %d", sum, in)
		}
	}
}
