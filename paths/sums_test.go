package paths_test

import (
	"maps"
	"slices"

	"qloom/api"
)

// Sums without order, and such in which a rule applies.

// draft is a path sum under way: products are sets of variables.
type draft struct {
	in, vars, half int
	phase          map[int]int
	outs           []map[int]int
}

func newDraft(in, vars, half int) *draft {
	d := &draft{in: in, vars: vars, half: half, phase: map[int]int{}}
	for range in {
		d.outs = append(d.outs, map[int]int{})
	}
	return d
}

// lists are the products of a draft in the document's order.
func lists(sets map[int]int) [][]int {
	var out [][]int
	for set := range maps.Keys(sets) {
		out = append(out, members(set))
	}
	slices.SortFunc(out, func(a, b []int) int {
		if len(a) != len(b) {
			return len(a) - len(b)
		}
		return slices.Compare(a, b)
	})
	return out
}

// place is the set of a product.
func place(variables []int) int {
	set := 0
	for _, v := range variables {
		set |= 1 << v
	}
	return set
}

// sum is the draft as it is told.
func (d *draft) sum() api.Sum {
	s := api.Sum{In: d.in, Vars: d.vars, Half: d.half}
	for _, list := range lists(d.phase) {
		s.Phase = append(s.Phase, api.Term{K: d.phase[place(list)], Vars: list})
	}
	for _, out := range d.outs {
		s.Out = append(s.Out, lists(out))
	}
	return s
}

// set is a set of a few variables, none of them among those that are left out.
func (n *noise) set(variables, leftOut int) int {
	set := 0
	for range n.below(4) {
		set |= 1 << n.below(variables)
	}
	return set &^ leftOut
}

// fill lays products and terms that have none of the variables that are left out.
func (n *noise) fill(d *draft, terms, products, leftOut int) {
	for range terms {
		d.phase[n.set(d.in+d.vars, leftOut)] = []int{1 + n.below(15), 8, 4}[n.below(3)]
	}
	for _, out := range d.outs {
		for range n.below(products + 1) {
			out[n.set(d.in+d.vars, leftOut)] = 1
		}
	}
}

// sum is one without order.
func (n *noise) sum(in, vars int) api.Sum {
	d := newDraft(in, vars, n.below(9)-4)
	n.fill(d, n.below(9), 3, 0)
	return d.sum()
}

// ripe is a sum, and a step that applies to it, if there is room for what it leaves.
func (n *noise) ripe(rule, in, vars, half int) (*draft, api.Step) {
	order := n.order(vars)
	p := api.Step{Rule: rule, Y: in + order[0]}
	d := newDraft(in, vars, half)
	y := 1 << p.Y
	switch rule {
	case api.RuleShift:
		p.Z = (p.Y + 1 + n.below(in+vars-1)) % (in + vars)
		y = 0
	case api.RulePair:
		p.Z = in + order[1]
		d.phase[y|1<<p.Z] = 8
	case api.RuleQuart:
		d.phase[y] = []int{4, 12}[n.below(2)]
	}
	if rule == api.RulePair || rule == api.RuleQuart {
		for range n.below(5) {
			if set := n.set(in+vars, y|1<<p.Z&^1); rule == api.RulePair || set != 0 {
				d.phase[y|set] = 8
			}
		}
	}
	n.fill(d, n.below(9), 3, y)
	return d, p
}
