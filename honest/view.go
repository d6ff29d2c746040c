package honest

import (
	"moot/game"
	"moot/position"
)

const noParent = -1

// view is a game as the honest side sees it.
type view struct {
	trace  *Trace
	claims []game.Claim
	even   bool // are the claims of even depth its own?
}

func newView(g *game.Game, t *Trace) (*view, error) {
	v := &view{trace: t}
	for i := range g.Len() {
		c, err := g.Claim(i)
		if err != nil {
			return nil, err
		}
		v.claims = append(v.claims, c)
	}
	if len(v.claims) == 0 {
		return v, nil
	}
	even, err := v.right(0)
	v.even = even
	return v, err
}

func (v *view) right(i int) (bool, error) {
	want, err := v.trace.valueOf(v.claims[i].Position)
	return err == nil && v.claims[i].Value == want, err
}

func (v *view) depth(i int) int {
	depth, _, _ := position.Parts(v.claims[i].Position)
	return depth
}

func (v *view) own(i int) bool {
	return (v.depth(i)%2 == 0) == v.even
}

// honest: is a claim of the own side right, and on that side of its parent on which it should be?
func (v *view) honest(i int) (bool, error) {
	right, err := v.right(i)
	parent := v.claims[i].Parent
	if err != nil || !right || parent == noParent {
		return right, err
	}
	parentRight, err := v.right(parent)
	if err != nil {
		return false, err
	}
	place, err := target(v.claims[parent].Position, parentRight)
	return err == nil && place == v.claims[i].Position, nil
}

// target: where an answer stands that defends, or attacks.
func target(place uint64, defend bool) (uint64, error) {
	if defend {
		return position.Defend(place)
	}
	return position.Attack(place)
}

// toAnswer: is it a claim of the other side, with only honest ones of the own side above it?
func (v *view) toAnswer(i int) (bool, error) {
	if v.own(i) || v.claims[i].Resolved {
		return false, nil
	}
	for parent := v.claims[i].Parent; parent != noParent; {
		honest, err := v.honest(parent)
		if err != nil || !honest {
			return false, err
		}
		other := v.claims[parent].Parent
		if other == noParent {
			break
		}
		parent = v.claims[other].Parent
	}
	return true, nil
}

// action: what a claim asks for, if it does.
func (v *view) action(i int) (Action, bool, error) {
	if to, err := v.toAnswer(i); err != nil || !to {
		return Action{}, false, err
	}
	right, err := v.right(i)
	if err != nil {
		return Action{}, false, err
	}
	fill := v.fillMove
	if v.depth(i) == v.trace.depth {
		fill = v.fillStep
	}
	a := Action{Claim: i, Defend: right}
	asked, err := fill(&a)
	if err != nil || !asked {
		return Action{}, false, err
	}
	return a, true, nil
}

// fillMove: the answer to a claim; none, if it is given already.
func (v *view) fillMove(a *Action) (bool, error) {
	place, err := target(v.claims[a.Claim].Position, a.Defend)
	if err != nil {
		return false, err
	}
	value, err := v.trace.valueOf(place)
	if err != nil {
		return false, err
	}
	for _, c := range v.claims {
		if c.Parent == a.Claim && c.Position == place && c.Value == value {
			return false, nil
		}
	}
	a.Value = value
	return true, nil
}

// fillStep: the step against a claim; none, if one was shown.
func (v *view) fillStep(a *Action) (bool, error) {
	c := v.claims[a.Claim]
	if c.Stepped {
		return false, nil
	}
	i, err := position.Trace(c.Position, v.trace.depth)
	if err != nil {
		return false, err
	}
	if a.Defend {
		i++
	}
	proof, err := v.trace.Prove(i)
	a.Step, a.Proof = true, proof
	return true, err
}
