package paths_test

import (
	"cmp"
	"slices"
	"testing"

	"qloom/api"
	"qloom/circ"
	"qloom/ring"
)

// What the document says, written out once more, without products: a path sum as the
// values that its phase and outputs have, whatever the variables are. Bit v of the
// place says what variable v is.

type model struct {
	in, vars, half int
	phase          []int
	outs           [][]int
}

// holds: are all variables of a product 1 at a place?
func holds(variables []int, at int) bool {
	for _, v := range variables {
		if at>>v&1 == 0 {
			return false
		}
	}
	return true
}

// modelOf is the model of a path sum that has no fault.
func modelOf(s api.Sum) model {
	m := model{in: s.In, vars: s.Vars, half: s.Half, phase: make([]int, 1<<(s.In+s.Vars))}
	for at := range m.phase {
		for _, term := range s.Phase {
			if holds(term.Vars, at) {
				m.phase[at] = (m.phase[at] + term.K) % 16
			}
		}
	}
	for _, list := range s.Out {
		out := make([]int, len(m.phase))
		for at := range out {
			for _, variables := range list {
				if holds(variables, at) {
					out[at] = 1 - out[at]
				}
			}
		}
		m.outs = append(m.outs, out)
	}
	return m
}

// coefficients says how often each product is in the sum that has these values: each
// place is the product of the variables that are 1 there.
func coefficients(values []int, modulus int) []int {
	out := slices.Clone(values)
	for bit := 1; bit < len(out); bit *= 2 {
		for at := range out {
			if at&bit != 0 {
				out[at] = (out[at] - out[at-bit] + modulus) % modulus
			}
		}
	}
	return out
}

// products are those of a sum with these values, in the document's order, with their
// coefficients.
func products(values []int, modulus int) []api.Term {
	var out []api.Term
	for at, k := range coefficients(values, modulus) {
		if k == 0 {
			continue
		}
		term := api.Term{K: k}
		for v := range 62 {
			if at>>v&1 == 1 {
				term.Vars = append(term.Vars, v)
			}
		}
		out = append(out, term)
	}
	slices.SortFunc(out, func(a, b api.Term) int {
		return cmp.Or(cmp.Compare(len(a.Vars), len(b.Vars)), slices.Compare(a.Vars, b.Vars))
	})
	return out
}

// sum is the path sum of a model, as the document writes it.
func (m model) sum() api.Sum {
	s := api.Sum{In: m.in, Vars: m.vars, Half: m.half, Phase: products(m.phase, 16)}
	for _, out := range m.outs {
		var list [][]int
		for _, term := range products(out, 2) {
			list = append(list, term.Vars)
		}
		s.Out = append(s.Out, list)
	}
	return s
}

// fits: has the model's sum no more terms and products than may be?
func (m model) fits() bool {
	for _, out := range m.outs {
		if len(products(out, 2)) > 24 {
			return false
		}
	}
	return len(products(m.phase, 16)) <= 300
}

// modelStart is what does nothing.
func modelStart(qubits int) model { return modelOf(nothing(qubits)) }

// do does an operation.
func (m model) do(op api.Op) model {
	if op.Kind == api.H {
		return m.fork(op.Q)
	}
	phase, outs := slices.Clone(m.phase), slices.Clone(m.outs)
	outs[op.Q] = slices.Clone(outs[op.Q])
	for at := range phase {
		switch op.Kind {
		case api.Phase:
			phase[at] = (phase[at] + op.K) % 16
		case api.P:
			phase[at] = (phase[at] + op.K*m.outs[op.Q][at]) % 16
		case api.X:
			all := 1
			for _, control := range op.Ctl {
				all *= m.outs[control][at]
			}
			outs[op.Q][at] ^= all
		}
	}
	m.phase, m.outs = phase, outs
	return m
}

// fork does an H: there are twice as many places.
func (m model) fork(q int) model {
	half := len(m.phase)
	out := model{in: m.in, vars: m.vars + 1, half: m.half + 1, phase: slices.Repeat(m.phase, 2)}
	for _, values := range m.outs {
		out.outs = append(out.outs, slices.Repeat(values, 2))
	}
	for at := half; at < 2*half; at++ {
		out.phase[at] = (out.phase[at] + 8*out.outs[q][at]) % 16
	}
	for at := range out.outs[q] {
		out.outs[q][at] = at / half
	}
	return out
}

// modelCircuit is a circuit's path sum, and its fault.
func modelCircuit(c api.Circuit) (api.Sum, api.Fault) {
	if f := circ.Pure(c); f != none {
		return api.Sum{}, f
	}
	for at, op := range c.Ops {
		if len(op.Ctl) > 2 || op.Kind != api.X && len(op.Ctl) != 0 {
			return api.Sum{}, fault(api.ErrControl, at)
		}
	}
	m := modelStart(c.Qubits)
	for at, op := range c.Ops {
		if m = m.do(op); !m.fits() || m.vars > 50 {
			return api.Sum{}, fault(api.ErrMany, at)
		}
	}
	return m.sum(), none
}

// changed is a model in which all values are those of other places.
func (m model) changed(place func(at int) int) model {
	read := func(values []int) []int {
		out := make([]int, len(values))
		for at := range out {
			out[at] = values[place(at)]
		}
		return out
	}
	m.phase, m.outs = read(m.phase), slices.Clone(m.outs)
	for q := range m.outs {
		m.outs[q] = read(m.outs[q])
	}
	return m
}

// without is a model of which no value hangs on variable v, when v is gone.
func (m model) without(v int) model {
	low := 1<<v - 1
	m = m.changed(func(at int) int { return (at&low | at&^low<<1) % len(m.phase) })
	m.vars--
	m.phase = m.phase[:len(m.phase)/2]
	for q := range m.outs {
		m.outs[q] = m.outs[q][:len(m.phase)]
	}
	return m
}

// around is what the phase gains at each place when v goes from 0 to 1.
func (m model) around(v int) []int {
	out := make([]int, len(m.phase))
	for at := range out {
		out[at] = (m.phase[at|1<<v] - m.phase[at&^(1<<v)] + 16) % 16
	}
	return out
}

// inside: does no output change with v?
func (m model) inside(v int) bool {
	for _, out := range m.outs {
		for at := range out {
			if out[at] != out[at^1<<v] {
				return false
			}
		}
	}
	return true
}

// rest is what the document calls Q, at each place, and whether the rule applies.
func (m model) rest(p api.Step) ([]int, bool) {
	around := m.around(p.Y)
	out := make([]int, len(around))
	for at := range around {
		switch p.Rule {
		case api.RuleDrop:
			if around[at] != 0 {
				return nil, false
			}
		case api.RulePair:
			if around[at]%8 != 0 || around[at] == around[at^1<<p.Z] {
				return nil, false
			}
			out[at] = around[at&^(1<<p.Z)] / 8
		case api.RuleQuart:
			if around[at]%8 != 4 {
				return nil, false
			}
			out[at] = around[at] / 8
		}
	}
	return out, m.inside(p.Y)
}

// step does a rule with variables that it can have; or is the code of what stands
// against it.
func (m model) step(p api.Step) (model, int) {
	if p.Rule == api.RuleShift {
		out := m.changed(func(at int) int { return at ^ at>>p.Z&1<<p.Y })
		return out, out.code()
	}
	rest, ok := m.rest(p)
	least := map[int]int{api.RuleDrop: 2, api.RulePair: 2, api.RuleQuart: 1}[p.Rule]
	switch {
	case !ok:
		return model{}, api.ErrRule
	case len(products(rest, 2)) > 24:
		return model{}, api.ErrMany
	case m.half-least < -1000:
		return model{}, api.ErrRange
	}
	m.half -= least
	out := m.changed(func(at int) int {
		at &^= 1 << p.Y
		if p.Rule == api.RulePair {
			at = at&^(1<<p.Z) | rest[at]<<p.Z
		}
		return at
	})
	if p.Rule == api.RuleQuart {
		for at := range out.phase {
			out.phase[at] = (out.phase[at] + 2 + 12*rest[at]) % 16
		}
	}
	if p.Rule == api.RulePair {
		out = out.without(max(p.Y, p.Z)).without(min(p.Y, p.Z))
	} else {
		out = out.without(p.Y)
	}
	return out, out.code()
}

// code is ErrMany, if there are too many terms or products.
func (m model) code() int {
	if m.fits() {
		return 0
	}
	return api.ErrMany
}

// modelCheck is the fault of a path sum.
func modelCheck(s api.Sum) api.Fault {
	switch {
	case s.In < 1 || s.In > 12:
		return fault(api.ErrQubits, 0)
	case s.Vars < 0 || s.Vars > 50:
		return fault(api.ErrVar, 0)
	case s.Half < -1000 || s.Half > 1000:
		return fault(api.ErrRange, 0)
	case len(s.Out) != s.In:
		return fault(api.ErrShape, 0)
	}
	for q, list := range s.Out {
		if len(list) > 24 {
			return fault(api.ErrMany, q)
		}
		if !isWritten(list, s.In+s.Vars) {
			return fault(api.ErrForm, q)
		}
	}
	if len(s.Phase) > 300 {
		return fault(api.ErrMany, s.In)
	}
	var list [][]int
	for _, term := range s.Phase {
		if term.K < 1 || term.K > 15 {
			return fault(api.ErrForm, s.In)
		}
		list = append(list, term.Vars)
	}
	if !isWritten(list, s.In+s.Vars) {
		return fault(api.ErrForm, s.In)
	}
	return none
}

// isWritten: are products written as the document says?
func isWritten(list [][]int, variables int) bool {
	for _, product := range list {
		for j, v := range product {
			if v < 0 || v >= variables || j > 0 && product[j-1] >= v {
				return false
			}
		}
	}
	for i := 1; i < len(list); i++ {
		a, b := list[i-1], list[i]
		if len(a) > len(b) || len(a) == len(b) && slices.Compare(a, b) >= 0 {
			return false
		}
	}
	return true
}

// modelStep is the sum behind a step, and the step's fault.
func modelStep(s api.Sum, p api.Step) (api.Sum, api.Fault) {
	if f := modelCheck(s); f != none {
		return api.Sum{}, f
	}
	isPath := func(v int) bool { return v >= s.In && v < s.In+s.Vars }
	takes := p.Z == 0
	switch p.Rule {
	case api.RuleDrop, api.RuleQuart:
	case api.RulePair:
		takes = isPath(p.Z) && p.Y != p.Z
	case api.RuleShift:
		takes = p.Z >= 0 && p.Z < s.In+s.Vars && p.Y != p.Z
	default:
		return api.Sum{}, fault(api.ErrKind, 0)
	}
	if !isPath(p.Y) {
		return api.Sum{}, fault(api.ErrVar, 0)
	}
	if !takes {
		return api.Sum{}, fault(api.ErrVar, 1)
	}
	m, code := modelOf(s).step(p)
	if code != 0 {
		return api.Sum{}, fault(code, 0)
	}
	return m.sum(), none
}

// rootOfTwo is z^2 - z^6.
func rootOfTwo(t *testing.T) ring.Num {
	t.Helper()
	n, f := ring.Parse("0,0,1,0,0,0,-1")
	equal(t, "the root of two", f, none)
	return n
}

// amplitudes are those that the model tells from a basis state.
func (m model) amplitudes(t *testing.T, in int) []string {
	t.Helper()
	list := make([]ring.Num, 1<<m.in)
	for way := range 1 << m.vars {
		at := in | way<<m.in
		end := 0
		for q, out := range m.outs {
			end += out[at] << q
		}
		list[end] = list[end].Add(ring.Root(m.phase[at]))
	}
	var out []string
	for _, n := range list {
		for range m.half {
			n = n.Half()
		}
		for range -m.half {
			n = n.Mul(rootOfTwo(t))
		}
		out = append(out, n.Text())
	}
	return out
}
