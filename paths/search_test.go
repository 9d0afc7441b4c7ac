package paths

import (
	"testing"

	"qloom/api"
)

// Sums that no circuit has, and that tell nothing is done all the same: the rules are
// done backwards, and variables shifted, without order.

// dice is a row of numbers that looks without order, and is the same each time.
type dice uint64

func (d *dice) below(bound int) int {
	*d = *d*6364136223846793005 + 1442695040888963407
	return int(uint64(*d)>>33) % bound
}

// form is a sum of single variables and perhaps 1.
func (d *dice) form(s *pathSum) sum[parity] {
	form := only[parity](one, parity(d.below(2)))
	for v := range s.in + s.vars {
		add(form, single(v), parity(d.below(2)))
	}
	return form
}

// twist lays two variables of which the second is a form, by the first, and adds what
// both differ by, which is 0 then, to anything.
func (d *dice) twist(s *pathSum) {
	y, z := s.in+s.vars, s.in+s.vars+1
	apart := d.form(s)
	add(apart, single(z), 1)
	s.vars += 2
	s.half += 2
	s.turn(only[sixteenths](single(y), 8), apart)
	for _, out := range s.outs {
		if d.below(3) == 0 {
			addTimes(out, apart, one, 1)
		}
	}
	for v := range y {
		if d.below(3) == 0 {
			s.turn(only[sixteenths](single(v), 8), apart)
		}
	}
	s.turn(only(one, sixteenths(4*d.below(4))), apart)
}

// quart lays a variable that goes by RuleQuart.
func (d *dice) quart(s *pathSum) {
	y := s.in + s.vars
	form := d.form(s)
	add(s.phase, one, -2)
	s.turn(only[sixteenths](one, 4), form)
	s.turn(only[sixteenths](single(y), 8), form)
	add(s.phase, single(y), 4)
	s.vars++
	s.half++
}

// tangled is a sum of so many qubits and at most so many path variables that does nothing.
func (d *dice) tangled(qubits, vars int) *pathSum {
	s := start(qubits)
	for s.vars+2 <= vars {
		if d.below(3) == 0 {
			d.quart(s)
		} else {
			d.twist(s)
		}
		for range d.below(20) {
			y, z := s.in+d.below(s.vars), d.below(s.in+s.vars)
			if y != z {
				s.shift(y, z)
			}
		}
	}
	return s
}

func TestTangledSums(t *testing.T) {
	used := 0
	for i := range 1000 {
		d := dice(i)
		qubits := 1 + d.below(10)
		s := d.tangled(qubits, 22-qubits)
		if !s.fits() {
			t.Fatalf("%d does not fit", i)
		}
		if _, ok := search(spoiled(s, &d)); ok {
			t.Errorf("%d: what does something is proved to do nothing", i)
		}
		steps, ok := search(s)
		if !ok {
			t.Errorf("%d: what does nothing is not proved", i)
		}
		for _, step := range steps {
			if step.Rule == api.RuleShift {
				used++
				break
			}
		}
	}
	if used < 50 {
		t.Errorf("only %d are shifted", used)
	}
}

// spoiled does something.
func spoiled(s *pathSum, d *dice) *pathSum {
	s = s.clone()
	q := d.below(s.in)
	switch d.below(4) {
	case 0:
		add(s.phase, one, sixteenths(1+d.below(15)))
	case 1:
		add(s.phase, single(q), sixteenths(4*(1+d.below(3))))
	case 2:
		add(s.outs[q], one, 1)
	case 3:
		s.half += 2
	}
	return s
}

// Where outputs are sums of single variables, as many are left in them as there are
// outputs of which none is the sum of others.
func TestStraightenedOutputs(t *testing.T) {
	for i := range 2000 {
		d := dice(i)
		s := start(1 + d.below(6))
		s.vars = 1 + d.below(8)
		for q := range s.outs {
			s.outs[q] = d.form(s)
			for v := s.in; v < s.in+s.vars; v++ {
				if d.below(2) == 0 {
					delete(s.outs[q], single(v))
				}
			}
		}
		want := rank(s)
		p := &proof{sum: s}
		p.straighten()
		left := 0
		for v := s.in; v < s.in+s.vars; v++ {
			if !p.sum.isInside(v) {
				left++
			}
		}
		if left != want || rank(p.sum) != want {
			t.Errorf("%d: %d variables are left in outputs of rank %d", i, left, want)
		}
	}
}

// rank is how many of the outputs are no sums of others, as far as path variables go.
func rank(s *pathSum) int {
	var rows []product
	for _, form := range s.outs {
		row := singles(form) >> s.in
		for _, other := range rows {
			row = min(row, row^other)
		}
		if row != one {
			rows = append(rows, row)
		}
	}
	return len(rows)
}
