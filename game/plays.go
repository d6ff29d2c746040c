package game

import (
	"slices"

	"moot/api"
	"moot/clock"
	"moot/onestep"
	"moot/position"
)

func (g *Game) find(i int) (*Claim, error) {
	if i < 0 || i >= len(g.claims) {
		return nil, api.ErrNone
	}
	return &g.claims[i], nil
}

// before: what the side that answers a claim had used when it made the one that this answers.
func (g *Game) before(c *Claim) uint64 {
	if c.Parent == noParent {
		return 0
	}
	return g.claims[c.Parent].Clock.Used
}

// over: may a claim be answered no more?
func (g *Game) over(c *Claim, now uint64) (bool, error) {
	return clock.Over(g.rules.Clock, c.Clock, g.before(c), now)
}

func (g *Game) move(claim int, defend bool, value api.Hash, player int, bond, now uint64) (int, error) {
	c, err := g.find(claim)
	if err != nil {
		return 0, err
	}
	if c.Resolved {
		return 0, api.ErrResolved
	}
	place, depth, err := g.target(c, defend)
	if err != nil {
		return 0, err
	}
	if bond != Bond(depth) {
		return 0, api.ErrBond
	}
	given := slices.ContainsFunc(g.claims, func(x Claim) bool {
		return x.Parent == claim && x.Position == place && x.Value == value
	})
	if given {
		return 0, api.ErrTwice
	}
	time, err := clock.Next(g.rules.Clock, c.Clock, g.before(c), now)
	if err != nil {
		return 0, err
	}
	if len(g.claims) >= api.MaxClaims {
		return 0, api.ErrFull
	}
	locked, err := g.ledger.Lock(player, bond)
	if err != nil {
		return 0, err
	}
	g.claims = append(g.claims, Claim{Parent: claim, Position: place, Value: value, Player: player, Bond: locked, Clock: time, By: player})
	return len(g.claims) - 1, nil
}

// target: where an answer to a claim stands, and how deep. ErrMove.
func (g *Game) target(c *Claim, defend bool) (uint64, int, error) {
	depth, _, err := position.Parts(c.Position)
	if err != nil || depth >= g.rules.Depth {
		return 0, 0, api.ErrMove
	}
	place, err := position.Attack(c.Position)
	if defend {
		place, err = position.Defend(c.Position)
	}
	if err != nil {
		return 0, 0, api.ErrMove
	}
	return place, depth + 1, nil
}

func (g *Game) step(claim int, defend bool, p onestep.Step, player int, now uint64) error {
	c, err := g.find(claim)
	if err != nil {
		return err
	}
	if c.Resolved {
		return api.ErrResolved
	}
	if _, err := g.ledger.Balance(player); err != nil {
		return err
	}
	ahead, behind, err := g.shown(c, defend)
	if err != nil {
		return err
	}
	if c.Stepped {
		return api.ErrTwice
	}
	over, err := g.over(c, now)
	if err != nil {
		return err
	}
	if over {
		return api.ErrClock
	}
	got, err := onestep.Verify(ahead, p)
	if err != nil {
		return err
	}
	valid := got == behind.Value
	if valid == oneSide(c, behind) {
		return api.ErrValid
	}
	c.Stepped, c.By = true, player
	return nil
}

// shown: what is claimed ahead of the step that is shown against a claim, and the claim behind it. ErrMove.
func (g *Game) shown(c *Claim, defend bool) (api.Hash, *Claim, error) {
	depth, index, err := position.Parts(c.Position)
	if err != nil || depth != g.rules.Depth {
		return api.Hash{}, nil, api.ErrMove
	}
	if defend {
		if index+1 == 1<<depth {
			return api.Hash{}, nil, api.ErrMove
		}
		behind, err := g.above(c, index+1)
		return c.Value, behind, err
	}
	if index == 0 {
		return g.rules.Start, c, nil
	}
	ahead, err := g.above(c, index-1)
	if err != nil {
		return api.Hash{}, nil, err
	}
	return ahead.Value, c, nil
}

// above: the nearest claim with a trace index, from a claim on up. A claim lies on one side of the first one of each attack and on the other side of that of each defence, so there is one for those that are asked for.
func (g *Game) above(c *Claim, index uint64) (*Claim, error) {
	for {
		trace, err := position.Trace(c.Position, g.rules.Depth)
		if err == nil && trace == index {
			return c, nil
		}
		if c.Parent == noParent {
			return nil, api.ErrMove
		}
		c = &g.claims[c.Parent]
	}
}

// oneSide: were two claims made by one side?
func oneSide(a, b *Claim) bool {
	one, _, _ := position.Parts(a.Position)
	other, _, _ := position.Parts(b.Position)
	return (one-other)%2 == 0
}

func (g *Game) resolve(claim int, now uint64) error {
	c, err := g.find(claim)
	if err != nil {
		return err
	}
	if c.Resolved {
		return api.ErrTwice
	}
	if slices.ContainsFunc(g.claims, func(x Claim) bool { return x.Parent == claim && !x.Resolved }) {
		return api.ErrOpen
	}
	over, err := g.over(c, now)
	if err != nil {
		return err
	}
	if !over {
		return api.ErrOpen
	}
	countered, by := c.Stepped, c.By
	if winner := g.winner(claim); !countered && winner != nil {
		countered, by = true, winner.Player
	}
	if err := g.ledger.Give(c.Bond, by); err != nil {
		return err
	}
	c.Resolved, c.Countered, c.By = true, countered, by
	return nil
}

// winner: the uncountered answer to a claim with the least position, of several the first.
func (g *Game) winner(claim int) *Claim {
	best := (*Claim)(nil)
	for i := range g.claims {
		x := &g.claims[i]
		if x.Parent == claim && !x.Countered && (best == nil || x.Position < best.Position) {
			best = x
		}
	}
	return best
}
