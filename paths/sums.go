package paths

import (
	"maps"

	"qloom/api"
)

// pathSum is a path sum as it is reckoned with.
type pathSum struct {
	in    int // qubits
	vars  int // path variables
	half  int
	phase sum[sixteenths]
	outs  []sum[parity]
}

// start is the path sum that does nothing: each qubit stays what it is.
func start(qubits int) *pathSum {
	s := &pathSum{in: qubits, phase: sum[sixteenths]{}}
	for q := range qubits {
		s.outs = append(s.outs, only[parity](single(q), 1))
	}
	return s
}

// read is a path sum that has no fault.
func read(s api.Sum) *pathSum {
	out := &pathSum{in: s.In, vars: s.Vars, half: s.Half, phase: sum[sixteenths]{}}
	for _, term := range s.Phase {
		p, _ := readProduct(term.Vars, s.In+s.Vars)
		out.phase[p] = sixteenths(term.K)
	}
	for _, list := range s.Out {
		form := sum[parity]{}
		for _, variables := range list {
			p, _ := readProduct(variables, s.In+s.Vars)
			form[p] = 1
		}
		out.outs = append(out.outs, form)
	}
	return out
}

// told is the path sum as it is answered.
func (s *pathSum) told() api.Sum {
	out := api.Sum{In: s.in, Vars: s.vars, Half: s.half}
	for _, p := range ordered(s.phase) {
		out.Phase = append(out.Phase, api.Term{K: int(s.phase[p]), Vars: p.variables()})
	}
	for _, form := range s.outs {
		list := [][]int{}
		for _, p := range ordered(form) {
			list = append(list, p.variables())
		}
		out.Out = append(out.Out, list)
	}
	return out
}

// clone is a path sum with maps of its own.
func (s *pathSum) clone() *pathSum {
	out := &pathSum{in: s.in, vars: s.vars, half: s.half, phase: maps.Clone(s.phase)}
	for _, form := range s.outs {
		out.outs = append(out.outs, maps.Clone(form))
	}
	return out
}

// fits: are there no more terms and products than may be?
func (s *pathSum) fits() bool {
	for _, form := range s.outs {
		if len(form) > api.MaxMonos {
			return false
		}
	}
	return len(s.phase) <= api.MaxTerms
}

// isStart: is this the path sum that does nothing?
func (s *pathSum) isStart() bool {
	for q, form := range s.outs {
		if !maps.Equal(form, only[parity](single(q), 1)) {
			return false
		}
	}
	return s.vars == 0 && s.half == 0 && len(s.phase) == 0
}

// isInside: does no output hang on variable v?
func (s *pathSum) isInside(v int) bool {
	for _, form := range s.outs {
		if count(form, v) > 0 {
			return false
		}
	}
	return true
}

// turn adds a sum times what a form is to the phase; or is false, if there would be
// too many terms in any case.
func (s *pathSum) turn(by sum[sixteenths], form sum[parity]) bool {
	more, ok := spread(by, form)
	addTimes(s.phase, more, one, 1)
	return ok
}

// replace puts a form in variable v's place everywhere; or is false, if there would be
// too many terms in any case.
func (s *pathSum) replace(v int, form sum[parity]) bool {
	for _, out := range s.outs {
		addTimes(out, times(takeOut(out, v), form), one, 1)
	}
	return s.turn(takeOut(s.phase, v), form)
}

// forget takes away variable v, which is in no product.
func (s *pathSum) forget(v int) {
	s.vars--
	s.phase = renumbered(s.phase, v)
	for q, form := range s.outs {
		s.outs[q] = renumbered(form, v)
	}
}

// do does an operation that a path sum can tell: does the sum fit behind it?
func (s *pathSum) do(op api.Op) bool {
	ok := true
	switch op.Kind {
	case api.Phase:
		add(s.phase, one, sixteenths(op.K))
	case api.P:
		ok = s.turn(only(one, sixteenths(op.K)), s.outs[op.Q])
	case api.X:
		s.flip(op.Q, op.Ctl)
	case api.H:
		ok = s.fork(op.Q)
	}
	return ok && s.fits()
}

// flip adds the product of what the controls are to what qubit q is.
func (s *pathSum) flip(q int, controls []int) {
	all := only[parity](one, 1)
	for _, control := range controls {
		all = times(all, s.outs[control])
	}
	addTimes(s.outs[q], all, one, 1)
}

// fork lets qubit q go two ways, by a new variable; or is false, if there is none left.
func (s *pathSum) fork(q int) bool {
	if s.vars == api.MaxVars {
		return false
	}
	y := single(s.in + s.vars)
	s.vars++
	s.half++
	ok := s.turn(only[sixteenths](y, 8), s.outs[q])
	s.outs[q] = only[parity](y, 1)
	return ok
}
