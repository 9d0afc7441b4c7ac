package circ_test

import (
	"math"
	"slices"
	"testing"

	"qloom/api"
	"qloom/circ"
)

func TestCheckOfGoodCircuits(t *testing.T) {
	for _, c := range pool() {
		equal(t, printed(t, c), circ.Check(c), none)
	}
	for qubits := 1; qubits <= api.MaxQubits; qubits++ {
		for bits := 0; bits <= api.MaxBits; bits++ {
			equal(t, "a size", circ.Check(api.Circuit{Qubits: qubits, Bits: bits}), none)
		}
	}
}

func TestCheckOfSizes(t *testing.T) {
	for _, n := range []int{math.MinInt64, -12, -1, 0, api.MaxQubits + 1, 100, math.MaxInt64} {
		equal(t, "qubits", circ.Check(api.Circuit{Qubits: n}), fault(api.ErrQubits, 0))
	}
	for _, n := range []int{math.MinInt64, -12, -1, api.MaxBits + 1, 100, math.MaxInt64} {
		equal(t, "bits", circ.Check(api.Circuit{Qubits: 1, Bits: n}), fault(api.ErrBits, 0))
	}
	gate := api.Op{Kind: api.H}
	equal(t, "just not too long", circ.Check(rows(api.MaxOps, gate)), none)
	equal(t, "too long", circ.Check(rows(api.MaxOps+1, gate)), fault(api.ErrLong, 0))
	equal(t, "the zero circuit", circ.Check(api.Circuit{}), fault(api.ErrQubits, 0))
}

// opCase is an operation, among 3 qubits and 2 bits, and the code of its fault.
type opCase struct {
	code int
	op   api.Op
}

func opCases() []opCase {
	return []opCase{
		{api.ErrKind, api.Op{}},
		{api.ErrKind, api.Op{Kind: -1}},
		{api.ErrKind, api.Op{Kind: 7}},
		{api.ErrKind, api.Op{Kind: math.MaxInt64}},
		{api.ErrKind, api.Op{Kind: math.MinInt64}},
		{0, api.Op{Kind: api.Phase, K: 15}},
		{api.ErrAngle, api.Op{Kind: api.Phase, K: 16}},
		{api.ErrAngle, api.Op{Kind: api.Phase, K: -1}},
		{0, api.Op{Kind: api.P, K: 15, Q: 2}},
		{0, api.Op{Kind: api.P, Q: 2}},
		{api.ErrAngle, api.Op{Kind: api.P, K: 16}},
		{api.ErrAngle, api.Op{Kind: api.P, K: math.MinInt64}},
		{api.ErrAngle, api.Op{Kind: api.X, K: 1}},
		{api.ErrAngle, api.Op{Kind: api.H, K: -1}},
		{api.ErrAngle, api.Op{Kind: api.Measure, K: 16}},
		{api.ErrAngle, api.Op{Kind: api.Reset, K: 15}},
		{0, api.Op{Kind: api.X, Q: 2}},
		{api.ErrQubit, api.Op{Kind: api.X, Q: 3}},
		{api.ErrQubit, api.Op{Kind: api.H, Q: -1}},
		{api.ErrQubit, api.Op{Kind: api.P, Q: math.MaxInt64}},
		{api.ErrQubit, api.Op{Kind: api.Measure, Q: 3}},
		{api.ErrQubit, api.Op{Kind: api.Reset, Q: math.MinInt64}},
		{api.ErrQubit, api.Op{Kind: api.Phase, Q: 1}},
		{api.ErrQubit, api.Op{Kind: api.Phase, Q: -1}},
		{api.ErrControl, api.Op{Kind: api.Phase, Ctl: []int{1}}},
		{api.ErrControl, api.Op{Kind: api.Measure, Ctl: []int{1}}},
		{api.ErrControl, api.Op{Kind: api.Reset, Ctl: []int{0}}},
		{0, api.Op{Kind: api.Phase, Ctl: []int{}}},
		{0, api.Op{Kind: api.X, Ctl: []int{2, 1}}},
		{0, api.Op{Kind: api.H, Q: 2, Ctl: []int{0}}},
		{0, api.Op{Kind: api.P, Q: 1, Ctl: []int{0, 2}}},
		{api.ErrQubit, api.Op{Kind: api.X, Ctl: []int{3}}},
		{api.ErrQubit, api.Op{Kind: api.X, Ctl: []int{1, -1}}},
		{api.ErrClone, api.Op{Kind: api.X, Ctl: []int{0}}},
		{api.ErrClone, api.Op{Kind: api.H, Q: 2, Ctl: []int{1, 0, 2}}},
		{api.ErrClone, api.Op{Kind: api.P, Q: 2, Ctl: []int{0, 1, 0}}},
		{0, api.Op{Kind: api.Measure, Bit: 1}},
		{api.ErrBit, api.Op{Kind: api.Measure, Bit: 2}},
		{api.ErrBit, api.Op{Kind: api.Measure, Bit: -1}},
		{api.ErrBit, api.Op{Kind: api.Reset, Bit: 1}},
		{api.ErrBit, api.Op{Kind: api.X, Bit: 1}},
		{api.ErrBit, api.Op{Kind: api.Phase, Bit: math.MinInt64}},
		{0, api.Op{Kind: api.X, If: []int{1, 1, -1, -2, 2}}},
		{0, api.Op{Kind: api.Measure, If: []int{-2}}},
		{0, api.Op{Kind: api.Phase, If: []int{2}}},
		{api.ErrIf, api.Op{Kind: api.X, If: []int{0}}},
		{api.ErrIf, api.Op{Kind: api.H, If: []int{3}}},
		{api.ErrIf, api.Op{Kind: api.P, If: []int{1, -3}}},
		{api.ErrIf, api.Op{Kind: api.Reset, If: []int{math.MinInt64}}},
		{api.ErrIf, api.Op{Kind: api.Phase, If: []int{math.MaxInt64}}},
		{0, api.Op{Kind: api.X, If: slices.Repeat([]int{1}, 2*api.MaxBits)}},
		{api.ErrIf, api.Op{Kind: api.X, If: slices.Repeat([]int{1}, 2*api.MaxBits+1)}},
	}
}

// Each is tried ahead of and behind good ones, so that its number is not always 0.
func TestCheckOfOperations(t *testing.T) {
	good := api.Op{Kind: api.X}
	for i, tried := range opCases() {
		for at := range 3 {
			c := api.Circuit{Qubits: 3, Bits: 2, Ops: []api.Op{good, good, good}}
			c.Ops[at] = tried.op
			want := none
			if tried.code != 0 {
				want = fault(tried.code, at)
			}
			if got := circ.Check(c); got != want {
				t.Errorf("case %d, %v at %d: %v, want %v", i, tried.op, at, got, want)
			}
		}
	}
}

func TestCheckWithoutBits(t *testing.T) {
	equal(t, "measure", circ.Check(one(1, 0, api.Op{Kind: api.Measure})), fault(api.ErrBit, 0))
	for _, term := range []int{1, -1, 0} {
		equal(t, "a condition", circ.Check(one(1, 0, api.Op{Kind: api.X, If: []int{term}})), fault(api.ErrIf, 0))
	}
	equal(t, "no condition", circ.Check(one(1, 0, api.Op{Kind: api.X, If: []int{}})), none)
}

func TestCheckAtTheGreatestSizes(t *testing.T) {
	all := []int{0, 1, 2, 3, 4, 5, 6, 7, 8, 9, 10}
	terms := []int{12, -12, 1, -1}
	good := api.Op{Kind: api.P, K: 15, Q: 11, Ctl: all, If: terms}
	equal(t, "all qubits", circ.Check(one(12, 12, good)), none)
	equal(t, "one too few", circ.Check(one(11, 12, good)), fault(api.ErrQubit, 0))
	equal(t, "one bit too few", circ.Check(one(12, 11, good)), fault(api.ErrIf, 0))
	measure := api.Op{Kind: api.Measure, Q: 11, Bit: 11}
	equal(t, "the last bit", circ.Check(one(12, 12, measure)), none)
	equal(t, "behind the last bit", circ.Check(one(12, 11, measure)), fault(api.ErrBit, 0))
	longList := slices.Repeat([]int{1}, 1000000)
	equal(t, "many controls", circ.Check(one(12, 12, api.Op{Kind: api.X, Ctl: longList})), fault(api.ErrClone, 0))
	equal(t, "many conditions", circ.Check(one(12, 12, api.Op{Kind: api.X, If: longList})), fault(api.ErrIf, 0))
}

// Of a circuit that has all faults at once, they are mended one by one: each
// time the next one in the document's order is told.
func TestCheckTellsTheFirstFault(t *testing.T) {
	c := api.Circuit{Qubits: 13, Bits: 13, Ops: slices.Repeat([]api.Op{{Kind: 9, K: 16, Q: 12, Ctl: []int{12, 0}, Bit: 12, If: []int{0}}}, api.MaxOps+1)}
	op := &c.Ops[0]
	for i, step := range []struct {
		want api.Fault
		mend func()
	}{
		{fault(api.ErrQubits, 0), func() { c.Qubits = 12 }},
		{fault(api.ErrBits, 0), func() { c.Bits = 12 }},
		{fault(api.ErrLong, 0), func() { c.Ops = c.Ops[:3] }},
		{fault(api.ErrKind, 0), func() { op.Kind = api.Measure }},
		{fault(api.ErrAngle, 0), func() { op.K = 0 }},
		{fault(api.ErrQubit, 0), func() { op.Q = 11 }},
		{fault(api.ErrControl, 0), func() { op.Kind = api.X }},
		{fault(api.ErrQubit, 0), func() { op.Ctl = []int{11, 12} }},
		{fault(api.ErrClone, 0), func() { op.Ctl = []int{1, 0, 1, 12} }},
		{fault(api.ErrClone, 0), func() { op.Ctl = []int{1, 12, 1} }},
		{fault(api.ErrQubit, 0), func() { op.Ctl = []int{1, 0} }},
		{fault(api.ErrBit, 0), func() { op.Bit = 0 }},
		{fault(api.ErrIf, 0), func() { op.If = nil }},
		{fault(api.ErrKind, 1), func() { c.Ops = c.Ops[:1] }},
	} {
		if got := circ.Check(c); got != step.want {
			t.Fatalf("step %d: %v, want %v", i, got, step.want)
		}
		step.mend()
	}
	equal(t, "all mended", circ.Check(c), none)
}

// wantedOp says the document's words on one operation, one after the other.
func wantedOp(c api.Circuit, op api.Op) int {
	isQubit := func(q int) bool { return 0 <= q && q < c.Qubits }
	kinds := map[int]string{api.Phase: "K", api.X: "QC", api.H: "QC", api.P: "KQC", api.Measure: "QB", api.Reset: "Q"}
	uses := func(field rune) bool { return slices.Contains([]rune(kinds[op.Kind]), field) }
	if kinds[op.Kind] == "" {
		return api.ErrKind
	}
	if op.K < 0 || op.K > 15 || op.K != 0 && !uses('K') {
		return api.ErrAngle
	}
	if !isQubit(op.Q) || op.Q != 0 && !uses('Q') {
		return api.ErrQubit
	}
	if len(op.Ctl) > 0 && !uses('C') {
		return api.ErrControl
	}
	ahead := map[int]bool{op.Q: true}
	for _, q := range op.Ctl {
		if !isQubit(q) {
			return api.ErrQubit
		}
		if ahead[q] {
			return api.ErrClone
		}
		ahead[q] = true
	}
	if uses('B') && (op.Bit < 0 || op.Bit >= c.Bits) || !uses('B') && op.Bit != 0 {
		return api.ErrBit
	}
	names := map[int]bool{}
	for b := range c.Bits {
		names[b+1], names[-(b+1)] = true, true
	}
	for i, term := range op.If {
		if !names[term] || i >= 24 {
			return api.ErrIf
		}
	}
	return 0
}

func wantedCheck(c api.Circuit) api.Fault {
	switch {
	case c.Qubits < 1 || c.Qubits > 12:
		return fault(api.ErrQubits, 0)
	case c.Bits < 0 || c.Bits > 12:
		return fault(api.ErrBits, 0)
	case len(c.Ops) > 4096:
		return fault(api.ErrLong, 0)
	}
	for at, op := range c.Ops {
		if code := wantedOp(c, op); code != 0 {
			return fault(code, at)
		}
	}
	return none
}

func TestCheckOfManyCircuits(t *testing.T) {
	seen := map[int]int{}
	for _, c := range badPool() {
		want := wantedCheck(c)
		seen[want.Code]++
		if got := circ.Check(c); got != want {
			t.Fatalf("%s: %v, want %v", short(c), got, want)
		}
	}
	for code := api.ErrQubits; code <= api.ErrIf; code++ {
		if seen[code] == 0 {
			t.Errorf("no circuit has the fault %d", code)
		}
	}
}

func TestPure(t *testing.T) {
	gates := []string{"phase 3", "x 0", "h 1 on 0", "p 5 1", "x 1 on 0"}
	c := circuit(t, append([]string{"qubits 2 bits 2"}, gates...)...)
	equal(t, "gates", circ.Pure(c), none)
	equal(t, "nothing", circ.Pure(api.Circuit{Qubits: 1}), none)
	for _, line := range []string{"measure 0 to 1", "reset 1", "x 0 if 0", "phase 0 if !1", "h 1 on 0 if 1", "p 3 0 if !0 0", "measure 1 to 0 if 1", "reset 0 if 1"} {
		for at := range len(gates) + 1 {
			lines := slices.Insert(slices.Clone(gates), at, line)
			c := circuit(t, append([]string{"qubits 2 bits 2"}, append(lines, "reset 0")...)...)
			equal(t, line, circ.Pure(c), fault(api.ErrUnitary, at))
		}
	}
}

// A fault of Check is told though an operation ahead of it is no gate.
func TestPureTellsChecksFaultFirst(t *testing.T) {
	c := api.Circuit{Qubits: 1, Bits: 1, Ops: []api.Op{{Kind: api.Reset}, {Kind: api.X, If: []int{1}}, {Kind: api.X, Q: 1}}}
	equal(t, "a bad qubit", circ.Pure(c), fault(api.ErrQubit, 2))
	equal(t, "the zero circuit", circ.Pure(api.Circuit{}), fault(api.ErrQubits, 0))
	for _, c := range badPool() {
		want := wantedCheck(c)
		if want == none {
			want = wantedPure(c)
		}
		equal(t, "a circuit", circ.Pure(c), want)
	}
}

func wantedPure(c api.Circuit) api.Fault {
	at := slices.IndexFunc(c.Ops, func(op api.Op) bool { return op.Kind >= api.Measure || len(op.If) != 0 })
	if at < 0 {
		return none
	}
	return fault(api.ErrUnitary, at)
}
