package console

import (
	"encoding/hex"
	"errors"
	"strconv"
	"strings"
	"testing"

	"moot/api"
	"moot/tx"
)

// play: lines and their answers, a pair each.
func play(t *testing.T, c *Console, pairs ...string) {
	t.Helper()
	for i := 0; i < len(pairs); i += 2 {
		got, err := c.Line(pairs[i])
		if got != pairs[i+1] || err != nil {
			t.Errorf("line %d, %q: %q, %v; want %q", i/2, pairs[i], got, err, pairs[i+1])
		}
	}
}

// batchOf: the digits of a batch.
func batchOf(t *testing.T, list ...api.Tx) string {
	t.Helper()
	var all [][]byte
	for _, x := range list {
		b, err := tx.Encode(x)
		if err != nil {
			t.Fatal(err)
		}
		all = append(all, b)
	}
	b, err := tx.Batch(all)
	if err != nil {
		t.Fatal(err)
	}
	return hex.EncodeToString(b)
}

// P22.1: the document's examples.
func TestExamples(t *testing.T) {
	begin := []string{"fund 1 500", "ok", "open", "ok", "batch 01", "ok 0"}
	c := New()
	play(t, c, begin...)
	play(t, c, "propose 3", "ok 0", "honest 0", "ok 0", "tick 1000", "ok", "resolve 0", "ok 1", "status 0", "kept 1", "final 0", "ok 2")
	c = New()
	play(t, c, begin...)
	play(t, c, "lie 3 7", "ok 0", "honest 0", "ok 1", "tick 1000", "ok", "resolve 0", "ok 2", "status 0", "lost 2", "final 0", "E43")
	play(t, New(), "fund 64 1", "E2", "fund 1", "bad", "fund 01 1", "bad", "open", "ok", "open", "open")
}

// P22.1: what is bad, closed and open, in this order.
func TestLines(t *testing.T) {
	c := New()
	for _, line := range []string{"", " ", "fund", "fund 1 2 3", "fund  1 2", " fund 1 2", "fund 1 2 ", "fund\t1 2", "Fund 1 2", "fund 1 -1", "fund 1 +1", "fund 1 0x1", "fund 1 00", "fund 1 01", "fund 1 -",
		"fund 1 4611686018427387905", "fund 1 99999999999999999999", "code 1 0", "code 1 0g", "code 1 0A", "code 1 --", "code 1 ", "code - -", "open 1", "batch", "batch 1", "batch 01 01", "propose", "propose x", "lie 1", "attack 1 2 3",
		"defend 1 2 3 4 5", "honest", "tick", "tick -1", "resolve", "final", "withdraw 1", "status", "balance", "balance 1 1", "what", "fund 1 2\r", "0", "fund 1 ٣"} {
		play(t, c, line, "bad")
	}
	behind := []string{"batch -", "propose 0", "lie 0 0", "attack 0 0 0 0", "defend 0 0 0 0", "honest 0", "resolve 0", "final 0", "withdraw 0 0", "status 0"}
	for _, line := range behind {
		play(t, c, line, "closed", line+" ", "bad")
	}
	play(t, c, "tick 5", "ok", "balance 7", "1000", "balance 8", "E2", "balance 4611686018427387904", "E2", "fund 0 0", "ok", "code 0 -", "ok", "code 63 "+strings.Repeat("0f", 64), "ok",
		"code 63 "+strings.Repeat("0f", 65), "E5", "code 64 -", "E2", "fund 63 4611686018427387904", "ok", "open", "ok")
	play(t, c, "fund 1 1", "open", "code 1 -", "open", "open", "open", "fund 1", "bad", "tick 0", "ok", "balance 0", "1000")
	play(t, c, "propose 0", "E4", "lie 9 9", "E4", "attack 0 0 0 0", "E4", "defend 9 1 0 0", "E4", "honest 9", "ok 0", "resolve 0", "E4", "final 0", "E4", "final 4611686018427387904", "E4", "withdraw 0 0", "E2", "withdraw 1 0", "E4", "status 0", "E4")
}

// P22.1: batches, proposals and lies.
func TestProposals(t *testing.T) {
	c := New()
	play(t, c, "fund 1 500", "ok", "code 2 2e33", "ok", "open", "ok", "batch "+batchOf(t, api.Tx{From: 1, To: 2, Value: 3, Gas: 50, Data: 7}), "ok 0", "batch -", "ok 1", "batch "+strings.Repeat("00", 4097), "E2")
	play(t, c, "propose 8", "E2", "propose 3", "ok 0", "balance 3", "999", "propose 4", "E41", "lie 4 256", "E41", "lie 4 0", "ok 1", "lie 4 0", "E41", "lie 4 1", "ok 2", "lie 5 257", "E41", "lie 5 255", "ok 3", "balance 4", "998")
	play(t, c, "status 0", "open 1", "final 0", "E44", "tick 999", "ok", "resolve 0", "ok 0", "tick 1", "ok", "resolve 0", "ok 1", "resolve 0", "ok 0", "status 0", "kept 1", "balance 3", "1000")
	// The second one is kept, too, but nothing shows its output; the third one was not disputed.
	play(t, c, "resolve 1", "ok 1", "status 1", "kept 1", "final 1", "E31", "resolve 2", "ok 1", "status 2", "kept 1", "final 2", "E31")
	play(t, c, "withdraw 1 0", "E4", "final 0", "ok 2", "final 0", "E43", "final 1", "E43", "withdraw 0 0", "E2", "withdraw 1 1", "E2", "withdraw 1 0", "2 7", "withdraw 1 0", "E41", "withdraw 2 0", "E4")
	for i := 4; i < 16; i++ {
		play(t, c, "lie 0 "+strconv.Itoa(i), "ok "+strconv.Itoa(i))
	}
	play(t, c, "propose 0", "E5", "tick 4611686018427387904", "ok", "tick 4611686018427387904", "ok", "resolve 4", "ok 0", "balance 0", "988")
	for i := 2; i < 16; i++ {
		play(t, c, "batch -", "ok "+strconv.Itoa(i))
	}
	play(t, c, "batch -", "E5")
}

// P22.1: a lie is never the truth, whatever the root's first byte.
func TestLies(t *testing.T) {
	for i := range 6 {
		c := New()
		play(t, c, "fund 1 "+strconv.Itoa(i), "ok", "open", "ok", "batch -", "ok 0", "propose 3", "ok 0", "lie 3 0", "ok 1", "lie 3 1", "ok 2", "lie 3 2", "ok 3", "lie 3 3", "ok 4")
	}
}

// P22.1: several batches, one after the other; the messages of all are withdrawn.
func TestBatches(t *testing.T) {
	c := New()
	play(t, c, "fund 1 500", "ok", "code 2 2e33", "ok", "open", "ok")
	send := func(nonce uint64, data ...uint64) string {
		var list []api.Tx
		for i, d := range data {
			list = append(list, api.Tx{From: 1, To: 2, Nonce: nonce + uint64(i), Gas: 20, Data: d})
		}
		return batchOf(t, list...)
	}
	play(t, c, "batch "+send(0, 5, 6), "ok 0", "batch ff", "ok 1", "batch "+send(2, 1<<63), "ok 2")
	for i := range 3 {
		n := strconv.Itoa(i)
		play(t, c, "propose 1", "ok "+n, "tick 1000", "ok", "honest 2", "ok 0", "resolve "+n, "ok 1", "final "+n, "ok "+strconv.Itoa(i+2))
	}
	play(t, c, "withdraw 2 0", "2 5", "withdraw 1 0", "E41", "withdraw 3 1", "2 6", "withdraw 2 2", "E2", "withdraw 3 2", "2 9223372036854775808", "withdraw 3 3", "E2", "withdraw 4 0", "E4", "propose 0", "E4")
}

// P22.1: attacks, defences, and what is asked of the honest one, in all games.
func TestRoles(t *testing.T) {
	c := New()
	play(t, c, "fund 1 500", "ok", "open", "ok", "batch 01", "ok 0", "propose 3", "ok 0", "lie 4 9", "ok 1")
	play(t, c, "attack 5 2 0 1", "E4", "attack 5 0 1 1", "E4", "attack 8 0 0 1", "E2", "defend 5 0 0 1", "E45", "attack 5 0 0 1", "ok 1", "attack 5 0 0 1", "E41", "attack 5 0 0 2", "ok 2", "balance 5", "996", "defend 5 0 1 4611686018427387904", "ok 3", "status 0", "open 4", "status 1", "open 1")
	// Two attacks are to be answered in the first game, and the lie in the second; the defence answers another liar.
	play(t, c, "honest 9", "E2", "status 0", "open 4", "honest 6", "ok 3", "honest 6", "ok 0", "status 0", "open 6", "status 1", "open 2", "balance 6", "992")
	play(t, c, "tick 999", "ok", "resolve 0", "ok 0", "tick 1", "ok", "attack 5 0 0 3", "E42", "resolve 1", "ok 2", "resolve 0", "ok 6", "status 0", "kept 6", "status 1", "lost 2", "attack 5 0 0 3", "E43", "final 0", "ok 2", "final 1", "E43")
	play(t, c, "balance 3", "1000", "balance 4", "999", "balance 6", "1005", "balance 5", "996")
}

// P22.1: a liar who answers all that is claimed comes to the step, and loses; the honest one stops where an act is refused.
func TestDeepDispute(t *testing.T) {
	c := New()
	play(t, c, "fund 1 500", "ok", "open", "ok", "batch "+batchOf(t, api.Tx{From: 1, To: 2, Value: 30, Gas: 10}), "ok 0", "lie 4 9", "ok 0")
	claims := 1
	for claims < 20 {
		play(t, c, "honest 6", "ok 1")
		claims++
		play(t, c, "attack 5 0 "+strconv.Itoa(claims-1)+" 77", "ok "+strconv.Itoa(claims))
		claims++
	}
	play(t, c, "honest 6", "ok 1", "honest 6", "ok 0", "status 0", "open 21", "tick 1000", "ok", "resolve 0", "ok 21", "status 0", "lost 21", "final 0", "E43")
	c = New()
	play(t, c, "open", "ok", "batch 01", "ok 0", "lie 4 9", "ok 0", "lie 4 8", "ok 1", "tick 500", "ok", "lie 4 7", "ok 2", "tick 500", "ok", "honest 6", "E42", "status 2", "open 1")
	play(t, c, "resolve 0", "ok 1", "resolve 1", "ok 1", "honest 6", "ok 1", "status 2", "open 2")
}

// P22.1: nil.
func TestNil(t *testing.T) {
	var c *Console
	if got, err := c.Line("open"); got != "" || err != api.ErrNil {
		t.Errorf("%q, %v", got, err)
	}
	if a, b, ok := c.Clash(); a != (api.Pre{}) || b != (api.Pre{}) || ok {
		t.Error("nil has a clash")
	}
	bare := &Console{}
	play(t, bare, "fund 1 1", "E1", "code 1 -", "E1", "balance 0", "E1", "open", "E1", "tick 1", "ok", "status 0", "closed")
}

// P22.2: scripts, their lines and their bounds.
func TestRun(t *testing.T) {
	for script, want := range map[string]string{
		"": "", "\n": "bad\n", "open": "ok\n", "open\n": "ok\n", "open\n\n": "ok\nbad\n", "\nopen": "bad\nok\n", "fund 1 2\nopen\nbalance 0": "ok\nok\n1000\n", "open\r\n": "bad\n",
		strings.Repeat("tick 1\n", 200): strings.Repeat("ok\n", 200), strings.Repeat("\n", 199) + "open": strings.Repeat("bad\n", 199) + "ok\n",
		strings.Repeat("x", 65536): "bad\n",
	} {
		if got, err := Run(script); got != want || err != nil {
			t.Errorf("%.30q: %q, %v", script, got, err)
		}
	}
	for _, script := range []string{strings.Repeat("\n", 201), strings.Repeat("tick 1\n", 200) + "x", strings.Repeat("\n", 65536)} {
		got, err := Run(script)
		var f *api.Fault
		if got != "" || !errors.As(err, &f) || f.At != 200 || !errors.Is(err, api.ErrLine) {
			t.Errorf("%q, %v", got, err)
		}
	}
	if got, err := Run(strings.Repeat("\n", 65537)); got != "" || err != api.ErrScript {
		t.Errorf("%q, %v", got, err)
	}
	// Each script has a console of its own.
	for range 2 {
		if got, _ := Run("open\nbatch -\nbatch -"); got != "ok\nok 0\nok 1\n" {
			t.Errorf("%q", got)
		}
	}
}

// P22.3: a console's store has no clash.
func TestClash(t *testing.T) {
	c := New()
	play(t, c, "fund 1 500", "ok", "open", "ok", "batch 01", "ok 0", "propose 3", "ok 0")
	if a, b, ok := c.Clash(); a != (api.Pre{}) || b != (api.Pre{}) || ok {
		t.Error("a clash")
	}
}

// P2: the same script has the same answers.
func TestSameAnswers(t *testing.T) {
	script := "fund 1 90\ncode 2 2e33\nopen\nbatch " + batchOf(t, api.Tx{From: 1, To: 2, Value: 1, Gas: 40, Data: 9}) + "\npropose 1\nlie 2 3\nattack 3 0 0 5\nhonest 4\nhonest 4\nstatus 0\nstatus 1\ntick 1000\nresolve 0\nresolve 1\nfinal 0\nfinal 1\nwithdraw 1 0\nbalance 4\n"
	first, err := Run(script)
	second, _ := Run(script)
	if err != nil || first != second || !strings.Contains(first, "2 9\n") {
		t.Errorf("%v\n%s\n%s", err, first, second)
	}
}
