package clock

import (
	"testing"

	"moot/api"
)

const top = 1 << 40

var rules = Rules{Limit: 10, Grace: 3}

// P17.1: which rules may be.
func TestCheck(t *testing.T) {
	for r, want := range map[Rules]error{
		{1, 0}: nil, {1, 1}: nil, {top, 0}: nil, {top, top}: nil, rules: nil,
		{0, 0}: api.ErrRange, {top + 1, 0}: api.ErrRange, {5, 6}: api.ErrRange, {1<<64 - 1, 0}: api.ErrRange, {5, 1<<64 - 1}: api.ErrRange,
	} {
		if err := Check(r); err != want {
			t.Errorf("%v: %v", r, err)
		}
		if want != nil {
			c, nextErr := Next(r, Clock{At: 9}, 0, 1)
			over, overErr := Over(r, Clock{At: 9}, 0, 1)
			if c != (Clock{}) || over || nextErr != want || overErr != want {
				t.Errorf("%v: %v, %v", r, nextErr, overErr)
			}
		}
	}
}

// P17.1: what was spent, and numbers that are none.
func TestSpent(t *testing.T) {
	for _, c := range []struct {
		c                 Clock
		before, now, want uint64
		err               error
	}{
		{Clock{2, 100}, 1, 104, 5, nil}, {Clock{2, 100}, 0, 100, 0, nil}, {Clock{2, 100}, 7, 100, 7, nil}, {Clock{top, 0}, top, top, 2 * top, nil},
		{Clock{2, 100}, 1, 99, 0, api.ErrRange}, {Clock{0, 0}, 0, top + 1, 0, api.ErrRange}, {Clock{0, 0}, top + 1, 0, 0, api.ErrRange},
		{Clock{0, top + 1}, 0, top + 1, 0, api.ErrRange}, {Clock{top + 1, 0}, 0, 0, 0, api.ErrRange}, {Clock{0, 1<<64 - 1}, 0, 1<<64 - 1, 0, api.ErrRange},
	} {
		got, err := Spent(c.c, c.before, c.now)
		if got != c.want || err != c.err {
			t.Errorf("%+v: %d, %v", c, got, err)
		}
		if c.err != nil {
			next, nextErr := Next(rules, c.c, c.before, c.now)
			over, overErr := Over(rules, c.c, c.before, c.now)
			if next != (Clock{}) || over || nextErr != c.err || overErr != c.err {
				t.Errorf("%+v: %v, %v", c, nextErr, overErr)
			}
		}
	}
}

// P17.2, P17.3: clocks of answers, at the limit and at the grace.
func TestNextAndOver(t *testing.T) {
	for _, c := range []struct {
		before, now uint64
		want        Clock
		over        bool
	}{
		{1, 100, Clock{1, 100}, false}, {1, 104, Clock{5, 104}, false}, {1, 106, Clock{7, 106}, false}, {1, 107, Clock{7, 107}, false},
		{1, 108, Clock{7, 108}, false}, {1, 109, Clock{}, true}, {1, 500, Clock{}, true}, {9, 100, Clock{7, 100}, false}, {10, 100, Clock{}, true}, {0, 109, Clock{7, 109}, false}, {0, 110, Clock{}, true},
	} {
		want := error(nil)
		if c.over {
			want = api.ErrClock
		}
		if got, err := Next(rules, Clock{2, 100}, c.before, c.now); got != c.want || err != want {
			t.Errorf("Next %d, %d: %v, %v", c.before, c.now, got, err)
		}
		if over, err := Over(rules, Clock{2, 100}, c.before, c.now); over != c.over || err != nil {
			t.Errorf("Over %d, %d: %v, %v", c.before, c.now, over, err)
		}
	}
	if got, err := Next(Rules{5, 5}, Clock{}, 0, 4); got != (Clock{0, 4}) || err != nil {
		t.Errorf("all is grace: %v, %v", got, err)
	}
}

// P17: behind each answer Grace is left, and quick answers use no more than they take.
func TestWhatFollows(t *testing.T) {
	for d := uint64(1); d <= 3; d++ {
		own, other, now := Clock{}, Clock{0, 50}, uint64(50)
		for n := uint64(1); n <= 3; n++ {
			now += d
			next, err := Next(rules, other, own.Used, now)
			if err != nil || next.Used > n*d || rules.Limit-next.Used < rules.Grace {
				t.Errorf("%d ticks, answer %d: %v, %v", d, n, next, err)
			}
			own, other = next, Clock{other.Used, now}
		}
	}
}
