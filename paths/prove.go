package paths

import (
	"cmp"
	"slices"

	"qloom/api"
)

// proof is a path sum, and the steps that have led to it.
type proof struct {
	sum   *pathSum
	steps []api.Step
}

// search looks for steps that lead to the path sum that does nothing. It ends: each
// time that it begins anew a variable has gone.
func search(s *pathSum) ([]api.Step, bool) {
	p := &proof{sum: s}
	for more := true; more; more = p.shrink() {
		for p.shrink() {
		}
		p.straighten()
	}
	if !p.sum.isStart() {
		return nil, false
	}
	return p.steps, true
}

// do does a step: does it apply?
func (p *proof) do(step api.Step) bool {
	next, code := p.sum.after(step)
	if code != 0 {
		return false
	}
	p.sum = next
	p.steps = append(p.steps, step)
	return true
}

// shrink does the first step by which a variable goes, if there is room: is there one?
func (p *proof) shrink() bool {
	for _, step := range p.sum.shrinking() {
		if p.do(step) {
			return true
		}
	}
	return false
}

// shrinking are the steps by which variables can go, if there is room: drops, then
// pairs, then quarts. Where a circuit stands ahead of what undoes it, the variables
// in the middle go together, and all that was between them is undone: so pairs are
// taken from the middle outwards.
func (s *pathSum) shrinking() []api.Step {
	var drops, pairs, quarts []api.Step
	for y := s.in; y < s.in+s.vars; y++ {
		if !s.isInside(y) {
			continue
		}
		around := part(s.phase, y)
		quart := api.Step{Rule: api.RuleQuart, Y: y}
		if form, ok := eighths(around); ok && len(form) > 0 {
			pairs = append(pairs, s.pairsOf(y, form)...)
		} else if ok {
			drops = append(drops, api.Step{Rule: api.RuleDrop, Y: y})
		} else if _, ok := besides(quart, around); ok {
			quarts = append(quarts, quart)
		}
	}
	slices.SortStableFunc(pairs, func(a, b api.Step) int { return cmp.Compare(s.reach(a), s.reach(b)) })
	return slices.Concat(drops, pairs, quarts)
}

// pairsOf are the steps by which y, with 8 times a form around it, can go together
// with another variable.
func (s *pathSum) pairsOf(y int, form sum[parity]) []api.Step {
	var steps []api.Step
	for z := s.in; z < s.in+s.vars; z++ {
		if isAlone(form, z) {
			steps = append(steps, api.Step{Rule: api.RulePair, Y: y, Z: z})
		}
	}
	return steps
}

// reach is how far the farther one of a pair is from the middle of all path
// variables, in halves.
func (s *pathSum) reach(pair api.Step) int {
	first, last := 2*s.in, 2*(s.in+s.vars-1)
	middle := (first + last) / 2
	return max(2*max(pair.Y, pair.Z)-middle, middle-2*min(pair.Y, pair.Z))
}

// straighten goes through the outputs: of the path variables that stand alone in one
// and have not been taken yet the first is taken, and shifted by the others, so that
// they stand there no more. Where outputs have no other products, those that are never
// taken are inside then.
func (p *proof) straighten() {
	free := single(p.sum.in+p.sum.vars) - single(p.sum.in)
	for q := range p.sum.outs {
		alone := singles(p.sum.outs[q]) & free
		if alone == one {
			continue
		}
		y := alone.least()
		free &^= single(y)
		for _, z := range (alone &^ single(y)).variables() {
			p.do(api.Step{Rule: api.RuleShift, Y: y, Z: z})
		}
	}
}

// singles are the variables that stand alone in a form.
func singles(form sum[parity]) product {
	all := one
	for p := range form {
		if p.length() == 1 {
			all |= p
		}
	}
	return all
}
