package paths_test

import (
	"math"
	"slices"
	"testing"

	"qloom/api"
	"qloom/paths"
)

func TestStepsOfTheExamples(t *testing.T) {
	s := of(t, circuit(t, "qubits 1 bits 0", "h 0", "h 0"))
	equal(t, "a pair", step(t, s, api.RulePair, 1, 2), nothing(1))
	s = of(t, circuit(t, "qubits 1 bits 0", "h 0", "p 4 0", "h 0"))
	equal(t, "a quart", step(t, s, api.RuleQuart, 1, 0), sum(1, 1, "2 1 + 12 v0 + 12 v1 + 8 v0v1", "v1"))
}

// What each rule leaves, variables renumbered.
func TestRulesByHand(t *testing.T) {
	for _, test := range []struct {
		what       string
		s          api.Sum
		rule, y, z int
		want       api.Sum
	}{
		{"the only one", sum(1, 2, "0", "v0"), api.RuleDrop, 1, 0, nothing(1)},
		{"Half below 0", sum(1, 0, "0", "v0"), api.RuleDrop, 1, 0, sum(0, -2, "0", "v0")},
		{"those above are renumbered", sum(3, 2, "1 v2 + 2 v0v2 + 3 v2v4 + 4 v0v2v4", "1 + v2 + v4", "v2v4"), api.RuleDrop, 3, 0, sum(2, 0, "1 v2 + 2 v0v2 + 3 v2v3 + 4 v0v2v3", "1 + v2 + v3", "v2v3")},
		{"the first", sum(3, 2, "1 v4 + 8 v3v4", "v3 + v4 + v3v4", "v1"), api.RuleDrop, 2, 0, sum(2, 0, "1 v3 + 8 v2v3", "v2 + v3 + v2v3", "v1")},
		{"Q is 0", sum(2, 2, "7 v2 + 8 v1v2", "v0 + v2 + v0v2"), api.RulePair, 1, 2, sum(0, 0, "0", "v0")},
		{"Q is 1", sum(2, 2, "8 v1 + 7 v2 + 8 v1v2", "v0 + v2 + v0v2"), api.RulePair, 1, 2, sum(0, 0, "7 1", "1")},
		{"Q is one variable", sum(2, 2, "7 v2 + 8 v0v1 + 8 v1v2", "1 + v2"), api.RulePair, 1, 2, sum(0, 0, "7 v0", "1 + v0")},
		{"Q is two", sum(2, 2, "3 v3 + 8 v0v2 + 8 v1v2 + 5 v1v3 + 8 v2v3", "v0", "v3"), api.RulePair, 2, 3, sum(0, 0, "3 v0 + 8 v1 + 5 v0v1", "v0", "v0 + v1")},
		{"Q is a product", sum(2, 0, "1 v3 + 8 v2v3 + 8 v0v1v2", "v0 + v3", "v1v3"), api.RulePair, 2, 3, sum(0, -2, "1 v0v1", "v0 + v0v1", "v0v1")},
		{"Q is a sum, to the fourth", sum(3, 2, "8 v2 + 1 v3 + 8 v0v2 + 8 v1v2 + 8 v2v3 + 8 v2v4", "v0", "v1"), api.RulePair, 2, 3,
			sum(1, 0, "1 1 + 15 v0 + 15 v1 + 15 v2 + 2 v0v1 + 2 v0v2 + 2 v1v2 + 12 v0v1v2", "v0", "v1")},
		{"Z below Y", sum(2, 2, "7 v1 + 8 v0v2 + 8 v1v2", "1 + v1"), api.RulePair, 2, 1, sum(0, 0, "7 v0", "1 + v0")},
		{"one between stays", sum(3, 2, "7 v4 + 8 v2v3 + 8 v2v4", "v3", "v4"), api.RulePair, 2, 4, sum(1, 0, "7 v2", "v2", "v2")},
		{"one above stays", sum(4, 4, "3 v3 + 8 v2v3 + 8 v2v5 + 1 v4v5", "v3v5", "v4"), api.RulePair, 2, 3, sum(2, 2, "3 v3 + 1 v2v3", "v3", "v2")},
		{"what cancels goes", sum(2, 2, "12 v0 + 4 v2 + 8 v0v1 + 8 v1v2", "v0 + v2"), api.RulePair, 1, 2, sum(0, 0, "0", "0")},
		{"4 alone", sum(1, 1, "4 v1", "v0"), api.RuleQuart, 1, 0, sum(0, 0, "2 1", "v0")},
		{"12 alone", sum(1, 1, "12 v1", "v0"), api.RuleQuart, 1, 0, sum(0, 0, "14 1", "v0")},
		{"4 and a constant", sum(1, 0, "14 1 + 4 v1", "v0"), api.RuleQuart, 1, 0, sum(0, -1, "0", "v0")},
		{"12 and a variable", sum(1, 1, "12 v1 + 8 v0v1", "v0"), api.RuleQuart, 1, 0, sum(0, 0, "14 1 + 4 v0", "v0")},
		{"4 and two variables", sum(1, 1, "3 v1 + 4 v2 + 8 v0v2 + 8 v1v2", "v0", "v1"), api.RuleQuart, 2, 0, sum(0, 0, "2 1 + 12 v0 + 15 v1 + 8 v0v1", "v0", "v1")},
		{"4 and a product", sum(2, 1, "4 v2 + 8 v0v1v2", "v0", "v3"), api.RuleQuart, 2, 0, sum(1, 0, "2 1 + 12 v0v1", "v0", "v2")},
		{"4 and one above", sum(2, 1, "4 v1 + 8 v1v2", "v2"), api.RuleQuart, 1, 0, sum(1, 0, "2 1 + 12 v1", "v1")},
		{"by a path variable", sum(2, 3, "8 v1 + 4 v0v1", "v1"), api.RuleShift, 1, 2, sum(2, 3, "8 v1 + 8 v2 + 4 v0v1 + 4 v0v2 + 8 v0v1v2", "v1 + v2")},
		{"by a qubit", sum(1, 3, "3 v1", "v0v1"), api.RuleShift, 1, 0, sum(1, 3, "3 v0 + 3 v1 + 10 v0v1", "v0 + v0v1")},
		{"beside Z already", sum(2, 0, "0", "v1 + v2"), api.RuleShift, 1, 2, sum(2, 0, "0", "v1")},
		{"with Z in a product", sum(2, 0, "5 v1v2", "v1v2"), api.RuleShift, 1, 2, sum(2, 0, "5 v2 + 11 v1v2", "v2 + v1v2")},
		{"where Y is not", sum(2, 1000, "5 v2", "v0"), api.RuleShift, 1, 2, sum(2, 1000, "5 v2", "v0")},
		{"at the least Half", sum(2, -1000, "5 v1", "v0"), api.RuleShift, 1, 2, sum(2, -1000, "5 v1 + 5 v2 + 6 v1v2", "v0")},
	} {
		equal(t, test.what, step(t, test.s, test.rule, test.y, test.z), test.want)
	}
}

// Where each condition of a rule alone is broken, it does not apply.
func TestRulesThatDoNotApply(t *testing.T) {
	for _, test := range []struct {
		what       string
		rule, y, z int
		s          api.Sum
	}{
		{"drop: in an output", api.RuleDrop, 2, 0, sum(2, 0, "0", "v0", "v2")},
		{"drop: in a product of an output", api.RuleDrop, 2, 0, sum(2, 0, "0", "v0v2", "v1")},
		{"drop: 8 around it", api.RuleDrop, 2, 0, sum(2, 0, "8 v2", "v0", "v1")},
		{"drop: 1 around it", api.RuleDrop, 2, 0, sum(2, 0, "1 v2", "v0", "v1")},
		{"drop: a product around it", api.RuleDrop, 2, 0, sum(2, 0, "8 v0v1v2", "v0", "v1")},
		{"pair: in an output", api.RulePair, 2, 3, sum(2, 0, "8 v2v3", "v0 + v2", "v1")},
		{"pair: in a product of an output", api.RulePair, 2, 3, sum(2, 0, "8 v2v3", "v0", "v0v2")},
		{"pair: nothing around it", api.RulePair, 2, 3, sum(2, 0, "0", "v0", "v1")},
		{"pair: no Z around it", api.RulePair, 2, 3, sum(2, 0, "8 v0v2", "v0", "v1")},
		{"pair: Z in a product around it alone", api.RulePair, 2, 3, sum(2, 0, "8 v0v2v3", "v0", "v1")},
		{"pair: Z in another product, too", api.RulePair, 2, 3, sum(2, 0, "8 v2v3 + 8 v0v2v3", "v0", "v1")},
		{"pair: Z in a longer product, too", api.RulePair, 2, 3, sum(2, 0, "8 v2v3 + 8 v0v1v2v3", "v0", "v1")},
		{"pair: 4 times Z", api.RulePair, 2, 3, sum(2, 0, "4 v2v3", "v0", "v1")},
		{"pair: 12 times Z", api.RulePair, 2, 3, sum(2, 0, "8 v0v2 + 12 v2v3", "v0", "v1")},
		{"pair: 4 beside it", api.RulePair, 2, 3, sum(2, 0, "4 v2 + 8 v2v3", "v0", "v1")},
		{"pair: 12 beside it", api.RulePair, 2, 3, sum(2, 0, "12 v0v2 + 8 v2v3", "v0", "v1")},
		{"pair: 1 times a product beside it", api.RulePair, 2, 3, sum(2, 0, "8 v2v3 + 1 v0v1v2", "v0", "v1")},
		{"quart: in an output", api.RuleQuart, 2, 0, sum(2, 0, "4 v2", "v0", "v1 + v2")},
		{"quart: in a product of an output", api.RuleQuart, 2, 0, sum(2, 0, "4 v2", "v0", "v1v2")},
		{"quart: nothing around it", api.RuleQuart, 2, 0, sum(2, 0, "0", "v0", "v1")},
		{"quart: 8 around it", api.RuleQuart, 2, 0, sum(2, 0, "8 v2", "v0", "v1")},
		{"quart: 8 times a variable around it", api.RuleQuart, 2, 0, sum(2, 0, "8 v0v2", "v0", "v1")},
		{"quart: 2 around it", api.RuleQuart, 2, 0, sum(2, 0, "2 v2", "v0", "v1")},
		{"quart: 6 around it", api.RuleQuart, 2, 0, sum(2, 0, "6 v2 + 8 v0v2", "v0", "v1")},
		{"quart: 4 times a variable beside it", api.RuleQuart, 2, 0, sum(2, 0, "4 v2 + 4 v0v2", "v0", "v1")},
		{"quart: 12 times a variable beside it", api.RuleQuart, 2, 0, sum(2, 0, "12 v2 + 12 v0v2", "v0", "v1")},
		{"quart: 4 times a variable alone", api.RuleQuart, 2, 0, sum(2, 0, "4 v0v2", "v0", "v1")},
		{"quart: 1 times a product beside it", api.RuleQuart, 2, 0, sum(2, 0, "4 v2 + 1 v0v1v2", "v0", "v1")},
	} {
		refusedStep(t, test.what, test.s, api.Step{Rule: test.rule, Y: test.y, Z: test.z}, fault(api.ErrRule, 0))
	}
}

func TestFaultsOfSteps(t *testing.T) {
	s := sum(3, 0, "0", "v0", "v1")
	for _, rule := range []int{0, 5, -1, 6, math.MinInt64, math.MaxInt64} {
		refusedStep(t, "no rule", s, api.Step{Rule: rule, Y: 2}, fault(api.ErrKind, 0))
		refusedStep(t, "ahead of the variables", s, api.Step{Rule: rule, Y: 9, Z: 9}, fault(api.ErrKind, 0))
	}
	for rule := 1; rule <= 4; rule++ {
		for _, y := range []int{0, 1, 5, 6, 62, 64, -1, math.MinInt64, math.MaxInt64} {
			refusedStep(t, "Y", s, api.Step{Rule: rule, Y: y}, fault(api.ErrVar, 0))
			refusedStep(t, "Y ahead of Z", s, api.Step{Rule: rule, Y: y, Z: 99}, fault(api.ErrVar, 0))
			refusedStep(t, "Y ahead of Z", s, api.Step{Rule: rule, Y: y, Z: y}, fault(api.ErrVar, 0))
		}
		for y := 2; y < 5; y++ {
			for _, z := range []int{y, 5, 6, 62, 64, -1, math.MinInt64, math.MaxInt64} {
				refusedStep(t, "Z", s, api.Step{Rule: rule, Y: y, Z: z}, fault(api.ErrVar, 1))
			}
		}
	}
	for _, rule := range []int{api.RuleDrop, api.RuleQuart} {
		for z := 1; z < 5; z++ {
			refusedStep(t, "Z is not used", s, api.Step{Rule: rule, Y: 3, Z: z}, fault(api.ErrVar, 1))
		}
	}
	for z := range 2 {
		refusedStep(t, "Z is no path variable", s, api.Step{Rule: api.RulePair, Y: 3, Z: z}, fault(api.ErrVar, 1))
		step(t, s, api.RuleShift, 3, z)
	}
	for _, v := range []int{2, 4} {
		refusedStep(t, "Z is one", s, api.Step{Rule: api.RulePair, Y: 3, Z: v}, fault(api.ErrRule, 0))
		step(t, s, api.RuleShift, 3, v)
	}
	refusedStep(t, "there is no path variable", nothing(2), api.Step{Rule: api.RuleDrop, Y: 2}, fault(api.ErrVar, 0))
	refusedStep(t, "Check's come first", api.Sum{}, api.Step{}, fault(api.ErrQubits, 0))
	refusedStep(t, "Check's come first", sum(1, 0, "0", "v0 + v0"), api.Step{}, fault(api.ErrForm, 0))
	refusedStep(t, "Check's come first", sum(1, 0, "16 v0", "v0"), api.Step{Rule: 9}, fault(api.ErrForm, 1))
	refusedStep(t, "Check's come first", sum(1, -1001, "0", "v0"), api.Step{Rule: api.RuleDrop, Y: 1}, fault(api.ErrRange, 0))
}

func TestTheLeastHalf(t *testing.T) {
	for half := -1000; half < -995; half++ {
		for _, test := range []struct {
			rule, z, less int
			turns         string
		}{{api.RuleDrop, 0, 2, "0"}, {api.RulePair, 2, 2, "8 v1v2"}, {api.RuleQuart, 0, 1, "4 v1"}, {api.RuleShift, 2, 0, "8 v1"}} {
			s := sum(2, half, test.turns, "v0")
			if half-test.less < -1000 {
				refusedStep(t, "too low", s, api.Step{Rule: test.rule, Y: 1, Z: test.z}, fault(api.ErrRange, 0))
			} else {
				equal(t, "lower", step(t, s, test.rule, 1, test.z).Half, half-test.less)
			}
		}
	}
	for _, half := range []int{1000, 999} {
		equal(t, "the greatest", step(t, sum(1, half, "4 v1", "v0"), api.RuleQuart, 1, 0).Half, half-1)
	}
}

// around is a sum of 12 qubits with 8 times so many products around variable 12, and
// what else is asked for.
func around(vars, half, count int, more map[int]int) *draft {
	d := newDraft(12, vars, half)
	for _, product := range some(count + 1)[1:] {
		d.phase[place(product)|1<<12] = 8
	}
	for set, k := range more {
		d.phase[set] = k
	}
	return d
}

// Q with as many products as may be, and with one more: ErrRule comes ahead of that,
// ErrRange behind it.
func TestLongSumsAround(t *testing.T) {
	pair, quart := api.Step{Rule: api.RulePair, Y: 12, Z: 13}, api.Step{Rule: api.RuleQuart, Y: 12}
	pairs, fours := map[int]int{3 << 12: 8}, map[int]int{1 << 12: 4}
	for count := 22; count < 30; count++ {
		for half, short := range map[int]int{0: 0, -999: 1, -1000: 2} {
			want := fault(api.ErrMany, 0)
			if count <= 24 {
				want = fault(api.ErrRange, 0)
			}
			if count > 24 || short > 0 {
				refusedStep(t, "a pair", around(2, half, count, pairs).sum(), pair, want)
			} else {
				equal(t, "a pair", step(t, around(2, half, count, pairs).sum(), pair.Rule, 12, 13).Half, half-2)
			}
			if count > 24 || short > 1 {
				refusedStep(t, "a quart", around(1, half, count, fours).sum(), quart, want)
			} else {
				equal(t, "a quart", step(t, around(1, half, count, fours).sum(), quart.Rule, 12, 0).Half, half-1)
			}
		}
	}
	for count := 22; count < 30; count++ {
		// 12 is 4, and 8 times the empty product
		_, f := paths.Step(around(1, 0, count, map[int]int{1 << 12: 12}).sum(), quart)
		equal(t, "a quart of 12", f.Code == api.ErrMany, count > 23)
		_, f = paths.Step(around(2, 0, count, map[int]int{3 << 12: 8, 1 << 12: 8}).sum(), pair)
		equal(t, "a pair and 1", f.Code == api.ErrMany, count > 23)
	}
	d := around(2, -1000, 30, pairs)
	d.outs[3][1<<12] = 1
	refusedStep(t, "ErrRule comes first", d.sum(), pair, fault(api.ErrRule, 0))
	refusedStep(t, "ErrRule comes first", around(1, -1000, 30, map[int]int{1 << 12: 2}).sum(), quart, fault(api.ErrRule, 0))
	refusedStep(t, "ErrRule comes first", around(1, -1000, 30, nil).sum(), api.Step{Rule: api.RuleDrop, Y: 12}, fault(api.ErrRule, 0))
}

// What a rule leaves has as many terms as may be, or one more.
func TestAsManyTermsBehindAStep(t *testing.T) {
	spare := some(400)
	lay := func(d *draft, count int) *draft {
		for i := 100; len(d.phase) < count; i++ {
			d.phase[place(spare[i])] = 3
		}
		return d
	}
	fits := func(what string, d *draft, p api.Step, terms int) {
		t.Helper()
		got, f := paths.Step(d.sum(), p)
		if terms > 300 {
			refusedStep(t, what, d.sum(), p, fault(api.ErrMany, 0))
			return
		}
		equal(t, what, f, none)
		equal(t, what, len(got.Phase), terms)
	}
	for count := 290; count <= 300; count++ {
		d := lay(newDraft(12, 1, 0), count-1)
		d.phase[1<<12] = 4
		fits("a quart", d, api.Step{Rule: api.RuleQuart, Y: 12}, count)
		d = lay(newDraft(12, 1, 0), count-3)
		d.phase[1<<12], d.phase[1<<12|1], d.phase[1<<12|2] = 4, 8, 8
		fits("a quart", d, api.Step{Rule: api.RuleQuart, Y: 12}, count+1)
		d = lay(newDraft(12, 2, 0), count-1)
		d.phase[1<<12] = 1
		fits("a shift", d, api.Step{Rule: api.RuleShift, Y: 12, Z: 13}, count+2)
		d = lay(newDraft(12, 2, 0), count-5)
		d.phase[3<<12], d.phase[1<<12|1], d.phase[1<<12|2], d.phase[1<<12|4], d.phase[1<<13] = 8, 8, 8, 8, 4
		fits("a pair", d, api.Step{Rule: api.RulePair, Y: 12, Z: 13}, count+1)
		d = lay(newDraft(12, 1, 0), count)
		fits("a drop", d, api.Step{Rule: api.RuleDrop, Y: 12}, count)
	}
}

// So it is with the products of outputs.
func TestAsManyProductsBehindAStep(t *testing.T) {
	spare := some(60)
	fill := func(d *draft, count int) *draft {
		for i := 20; len(d.outs[7]) < count; i++ {
			d.outs[7][place(spare[i])] = 1
		}
		return d
	}
	for count := 18; count <= 24; count++ {
		for more := range 5 {
			d := newDraft(12, 2, 0)
			d.phase[3<<12] = 8
			for v := range more {
				d.phase[1<<12|1<<v] = 8
			}
			d.outs[7][1<<13] = 1
			pair := api.Step{Rule: api.RulePair, Y: 12, Z: 13}
			if s := fill(d, count).sum(); count-1+more > 24 {
				refusedStep(t, "a pair", s, pair, fault(api.ErrMany, 0))
			} else {
				equal(t, "a pair", len(step(t, s, pair.Rule, 12, 13).Out[7]), count-1+more)
			}
			d = newDraft(12, 2, 0)
			for v := range more {
				d.outs[7][1<<12|1<<v] = 1
			}
			shift := api.Step{Rule: api.RuleShift, Y: 12, Z: 13}
			if s := fill(d, count).sum(); count+more > 24 {
				refusedStep(t, "a shift", s, shift, fault(api.ErrMany, 0))
			} else {
				equal(t, "a shift", len(step(t, s, shift.Rule, 12, 13).Out[7]), count+more)
			}
		}
	}
}

// A step that would leave far more than may be is refused in no time.
func TestFarTooManyBehindAStep(t *testing.T) {
	for k := 1; k < 16; k++ {
		d := newDraft(12, 50, 0)
		for v := 13; v < 38; v++ {
			d.phase[1<<12|1<<v] = 8
		}
		for a := 38; a < 62; a++ {
			for b := 38; b < a && len(d.phase) < 300; b++ {
				d.phase[1<<13|1<<a|1<<b] = k
			}
		}
		refusedStep(t, "a pair", d.sum(), api.Step{Rule: api.RulePair, Y: 12, Z: 13}, fault(api.ErrMany, 0))
	}
}

// A shift makes of each term with Y three; so it is refused at a third of the terms.
func TestShiftsOfManyTerms(t *testing.T) {
	for _, count := range []int{99, 100, 101, 102, 199, 200, 201, 202, 250, 300} {
		d := newDraft(12, 2, 0)
		for _, product := range some(count) {
			d.phase[place(product)|1<<12] = 1
		}
		p := api.Step{Rule: api.RuleShift, Y: 12, Z: 13}
		if count > 100 {
			refusedStep(t, "a shift", d.sum(), p, fault(api.ErrMany, 0))
		} else {
			equal(t, "a shift", len(step(t, d.sum(), p.Rule, 12, 13).Phase), 3*count)
		}
	}
}

// What comes in Z's place has more terms than may be, but what is left doesn't: most
// of them undo others.
func TestManyTermsThatUndoOthers(t *testing.T) {
	d := newDraft(12, 25, 0)
	const y, z, v = 1 << 12, 1 << 13, 1 << 11
	var singles []int
	for i := range 24 {
		singles = append(singles, 1<<(i+i/11*3))
	}
	left := 0
	lay := func(set, k int) {
		if len(d.phase) < 300 {
			d.phase[set] = k
		} else {
			left++
		}
	}
	d.phase[y|z], d.phase[z], d.phase[z|v] = 8, 4, 8
	for _, single := range singles {
		d.phase[y|single] = 8
	}
	for i, a := range singles {
		lay(a, 12)
		lay(a|v, 8)
		for _, b := range singles[:i] {
			lay(a|b, 8)
		}
	}
	equal(t, "24 and their pairs, and 24 with one more", 300-27+left, 324)
	got := step(t, d.sum(), api.RulePair, 12, 13)
	equal(t, "what is left", len(got.Phase), left)
	equal(t, "no fault", paths.Check(got), none)
}

// Many products over few variables leave few terms, however often they are multiplied.
func TestManyProductsOfFewVariables(t *testing.T) {
	for i := range 200 {
		n := noise(i)
		d := newDraft(5, 2, 0)
		d.phase[3<<5] = 8
		for len(d.phase) < 20 {
			d.phase[1<<5|n.below(32)] = 8
		}
		for len(d.phase) < 60 {
			d.phase[1<<6&^(n.below(2)<<6)|n.below(32)] = 1 + n.below(15)
		}
		d.outs[0][1<<6] = 1
		p := api.Step{Rule: api.RulePair, Y: 5, Z: 6}
		want, f := modelStep(d.sum(), p)
		got, g := paths.Step(d.sum(), p)
		equal(t, "fault", g, f)
		equal(t, "sum", got, want)
	}
}

// Sums and steps without order, held to the values of their phases and outputs.
func TestManySteps(t *testing.T) {
	seen := map[int]int{}
	for i := range 12000 {
		n := noise(i)
		in, vars := 1+n.below(3), 2+n.below(3)
		d, p := n.ripe(1+n.below(4), in, vars, n.below(9)-4)
		switch n.below(6) {
		case 0:
			d.phase[1<<p.Y|n.set(in+vars, 0)] = 1 + n.below(15)
		case 1:
			d.outs[n.below(in)][1<<p.Y|n.set(in+vars, 0)] = 1
		case 2:
			d.half = -995 - n.below(6)
		case 3:
			*[]*int{&p.Rule, &p.Y, &p.Z}[n.below(3)] = n.below(9) - 1
		}
		s := d.sum()
		want, f := modelStep(s, p)
		got, g := paths.Step(s, p)
		equal(t, short(s), g, f)
		equal(t, short(s), got, want)
		equal(t, "no fault", f != none || paths.Check(got) == none, true)
		seen[f.Code<<4|p.Rule&7]++
	}
	for rule := 1; rule <= 4; rule++ {
		equal(t, "rules apply", seen[rule] > 300, true)
		equal(t, "or do not", seen[api.ErrRule<<4|rule] > 20, rule != api.RuleShift)
	}
}

// What follows: no rule changes what a sum tells.
func TestNoRuleChangesWhatASumTells(t *testing.T) {
	tried := 0
	for i := range 1500 {
		n := noise(40000 + i)
		d, p := n.ripe(1+i%4, 1+n.below(3), 2+n.below(5), n.below(9)-4)
		s := d.sum()
		next, f := paths.Step(s, p)
		if f != none {
			equal(t, "no room", f.Code, api.ErrMany)
			continue
		}
		tried++
		for in := range 1 << s.In {
			equal(t, short(s), amps(t, next, in), amps(t, s, in))
		}
	}
	equal(t, "most are tried", tried > 1200, true)
}

// Whatever is done one after the other: as long as a rule applies, the amplitudes stay.
func TestRowsOfSteps(t *testing.T) {
	for i := range 150 {
		n := noise(70000 + i)
		qubits := 1 + n.below(3)
		s, f := paths.Of(n.circuit(qubits, 20, 7))
		equal(t, "Of", f, none)
		before := amps(t, s, 1)
		for range 40 {
			p := api.Step{Rule: 1 + n.below(4), Y: qubits + n.below(7)}
			if p.Rule%2 == 0 {
				p.Z = n.below(qubits + 7)
			}
			next, f := paths.Step(s, p)
			if f != none {
				continue
			}
			equal(t, short(p), amps(t, next, 1), before)
			s = next
		}
	}
}

// Each rule takes back what it has done, or goes on: shifting twice by one variable is
// as if nothing was done.
func TestShiftingTwice(t *testing.T) {
	for i := range 300 {
		n := noise(i)
		d, p := n.ripe(api.RuleShift, 1+n.below(3), 2+n.below(3), 0)
		s := d.sum()
		once, f := paths.Step(s, p)
		if f == none {
			equal(t, "twice", step(t, once, p.Rule, p.Y, p.Z), s)
		}
	}
}

// As many variables as there may be.
func TestStepsWithAllVariables(t *testing.T) {
	d := newDraft(12, 50, 0)
	d.phase[1<<60|1<<61], d.phase[1<<59|1<<60], d.phase[1<<12|1<<61], d.phase[1<<58] = 8, 8, 5, 4
	d.outs[11][1<<61|1] = 1
	got := step(t, d.sum(), api.RulePair, 60, 61)
	want := newDraft(12, 48, -2)
	want.phase[1<<12|1<<59], want.phase[1<<58] = 5, 4
	want.outs[11][1<<59|1] = 1
	equal(t, "a pair", got, want.sum())
	got = step(t, want.sum(), api.RuleQuart, 58, 0)
	want = newDraft(12, 47, -3)
	want.phase[1<<12|1<<58], want.phase[0] = 5, 2
	want.outs[11][1<<58|1] = 1
	equal(t, "a quart", got, want.sum())
	got = step(t, want.sum(), api.RuleDrop, 13, 0)
	equal(t, "a drop", got.Out[11], [][]int{{0, 57}})
	got = step(t, d.sum(), api.RuleShift, 61, 0)
	equal(t, "a shift", got.Out[11], [][]int{{0}, {0, 61}})
	equal(t, "a shift", slices.ContainsFunc(got.Phase, func(term api.Term) bool { return slices.Equal(term.Vars, []int{0, 12, 61}) && term.K == 6 }), true)
}
