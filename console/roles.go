package console

import (
	"strconv"

	"moot/api"
	"moot/client"
	"moot/clock"
	"moot/game"
	"moot/honest"
	"moot/rollup"
	"moot/stf"
	"moot/wordbytes"
)

// balanceSlot is the word of an account that fund sets.
const balanceSlot = 0

func (c *Console) fund(a arguments) (string, error) {
	return done(c.state.Set(a.numbers[0], balanceSlot, a.numbers[1]))
}

func (c *Console) code(a arguments) (string, error) {
	return done(c.state.SetCode(a.numbers[0], a.bytes))
}

func (c *Console) open(arguments) (string, error) {
	r, err := rollup.New(c.ledger, clock.Rules{Limit: limit}, rollup.Output{Root: c.state.Root()})
	if err != nil {
		return "", err
	}
	c.rollup = r
	c.ends = []int{0}
	return "ok", nil
}

func (c *Console) batch(a arguments) (string, error) {
	n, err := c.rollup.Batch(a.bytes)
	if err == nil {
		c.inbox = append(c.inbox, a.bytes)
	}
	return told("ok", n, err)
}

func (c *Console) propose(a arguments) (string, error) {
	o, final, p, err := c.truth()
	if err != nil {
		return "", err
	}
	return c.submit(a.numbers[0], o, final, p)
}

func (c *Console) lie(a arguments) (string, error) {
	o, final, p, err := c.truth()
	if err != nil {
		return "", err
	}
	if a.numbers[1] == 0 {
		o.Root[0] ^= 1
	} else {
		final[0] ^= byte(a.numbers[1])
	}
	return c.submit(a.numbers[0], o, final, p)
}

// truth: the output of the next batch, the trace's last value, and what is to be known of a proposal for it. ErrNone, if there is no next batch.
func (c *Console) truth() (rollup.Output, api.Hash, proposal, error) {
	outputs := c.rollup.Final()
	n := len(outputs) - 1
	m, err := c.rollup.Start(n)
	if err != nil {
		return rollup.Output{}, api.Hash{}, proposal{}, err
	}
	list := stf.Txs(c.inbox[n])
	if _, err := client.Lend(c.store, list); err != nil {
		return rollup.Output{}, api.Hash{}, proposal{}, err
	}
	r, err := stf.Apply(c.store, outputs[n].Root, outputs[n].Out, list)
	if err != nil {
		return rollup.Output{}, api.Hash{}, proposal{}, err
	}
	t, err := honest.New(m, c.store, api.GameDepth)
	if err != nil {
		return rollup.Output{}, api.Hash{}, proposal{}, err
	}
	final, err := t.At(1<<api.GameDepth - 1)
	return rollup.Output{Root: r.Root, Out: r.Out}, final, proposal{batch: n, trace: t, messages: r.Messages}, err
}

func (c *Console) submit(player uint64, o rollup.Output, final api.Hash, p proposal) (string, error) {
	n, err := c.rollup.Propose(o, final, int(player), c.now)
	if err == nil {
		c.proposals = append(c.proposals, p)
	}
	return told("ok", n, err)
}

func (c *Console) attack(a arguments) (string, error) { return c.answer(a, false) }

func (c *Console) defend(a arguments) (string, error) { return c.answer(a, true) }

func (c *Console) answer(a arguments, defend bool) (string, error) {
	g, err := c.rollup.Game(int(a.numbers[1]))
	if err != nil {
		return "", err
	}
	move := honest.Action{Claim: int(a.numbers[2]), Defend: defend}
	wordbytes.Put(move.Value[:], 0, a.numbers[3])
	err = honest.Act(g, move, int(a.numbers[0]), c.now)
	return told("ok", g.Len()-1, err)
}

func (c *Console) honest(a arguments) (string, error) {
	count := 0
	for i, p := range c.proposals {
		g, err := c.rollup.Game(i)
		if err != nil {
			return "", err
		}
		list, err := honest.Actions(g, p.trace)
		if err != nil {
			return "", err
		}
		for _, x := range list {
			if err := honest.Act(g, x, int(a.numbers[0]), c.now); err != nil {
				return "", err
			}
			count++
		}
	}
	return told("ok", count, nil)
}

func (c *Console) tick(a arguments) (string, error) {
	c.now = min(c.now+a.numbers[0], greatest)
	return "ok", nil
}

func (c *Console) resolve(a arguments) (string, error) {
	g, err := c.rollup.Game(int(a.numbers[0]))
	if err != nil {
		return "", err
	}
	count := 0
	for i := g.Len() - 1; i >= 0; i-- {
		if g.Resolve(i, c.now) == nil {
			count++
		}
	}
	return told("ok", count, nil)
}

func (c *Console) final(a arguments) (string, error) {
	if a.numbers[0] >= uint64(len(c.proposals)) {
		return "", api.ErrNone
	}
	i := int(a.numbers[0])
	p := c.proposals[i]
	m, err := c.rollup.Start(p.batch)
	if err != nil {
		return "", err
	}
	if _, err := m.Run(c.store.Copy(), api.ClientSteps); err != nil {
		return "", err
	}
	shown, err := rollup.Show(m)
	if err != nil {
		return "", err
	}
	if err := c.rollup.Finalise(i, shown); err != nil {
		return "", err
	}
	// What becomes final is what the batch makes, and so are its messages.
	c.messages = append(c.messages, p.messages...)
	c.ends = append(c.ends, len(c.messages))
	return told("ok", len(c.ends), nil)
}

func (c *Console) withdraw(a arguments) (string, error) {
	n := min(a.numbers[0], uint64(len(c.ends)-1))
	list := c.messages[:c.ends[n]]
	m, err := c.rollup.Withdraw(int(a.numbers[0]), api.Hash{}, list, int(a.numbers[1]))
	if err != nil {
		return "", err
	}
	return strconv.FormatUint(m.From, 10) + " " + strconv.FormatUint(m.Word, 10), nil
}

func (c *Console) status(a arguments) (string, error) {
	g, err := c.rollup.Game(int(a.numbers[0]))
	if err != nil {
		return "", err
	}
	return told(statusName(g), g.Len(), nil)
}

func statusName(g *game.Game) string {
	switch g.Status() {
	case 1:
		return "kept"
	case 2:
		return "lost"
	}
	return "open"
}

func (c *Console) balance(a arguments) (string, error) {
	v, err := c.ledger.Balance(int(a.numbers[0]))
	if err != nil {
		return "", err
	}
	return strconv.FormatUint(v, 10), nil
}
