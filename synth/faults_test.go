package synth_test

import (
	"fmt"
	"math"
	"slices"
	"strings"
	"testing"

	"qloom/api"
	"qloom/circ"
	"qloom/synth"
)

// normalRefused holds Normal to a fault, beside which nothing is answered.
func normalRefused(t *testing.T, what string, c api.Circuit, want api.Fault) {
	t.Helper()
	form, f := synth.Normal(c)
	equal(t, what+": Normal of "+short(c), []any{form, f}, []any{[]string{}, want})
}

// fullRefused holds Full to a fault, beside which nothing is answered.
func fullRefused(t *testing.T, what string, m [][]string, want api.Fault) {
	t.Helper()
	c, f := synth.Full(m)
	equal(t, what+": Full of "+short(m), []any{c, f}, []any{api.Circuit{}, want})
}

func TestSizesOfCircuitsThatCannotBe(t *testing.T) {
	for _, n := range []int{math.MinInt64, -1, 0, api.MaxQubits + 1, math.MaxInt64} {
		normalRefused(t, "qubits", api.Circuit{Qubits: n}, fault(api.ErrQubits, 0))
	}
	for _, n := range []int{math.MinInt64, -1, api.MaxBits + 1, math.MaxInt64} {
		normalRefused(t, "bits", api.Circuit{Qubits: 1, Bits: n}, fault(api.ErrBits, 0))
	}
	many := slices.Repeat([]api.Op{{Kind: api.H}}, api.MaxOps+1)
	normalRefused(t, "too long", api.Circuit{Qubits: 1, Ops: many}, fault(api.ErrLong, 0))
	equal(t, "just not too long", normal(t, api.Circuit{Qubits: 1, Ops: many[1:]}), "[+X +Z]")
}

// Circuits may have more than one qubit, but these have no normal form.
func TestMoreThanOneQubit(t *testing.T) {
	for qubits := 2; qubits <= api.MaxQubits; qubits++ {
		normalRefused(t, "no operations", api.Circuit{Qubits: qubits}, fault(api.ErrQubits, 0))
		ops := []api.Op{{Kind: api.H}, {Kind: api.X, Q: 1, Ctl: []int{0}}}
		normalRefused(t, "qubits", api.Circuit{Qubits: qubits, Ops: ops}, fault(api.ErrQubits, 0))
		ops = append(ops, api.Op{Kind: api.P, K: 1})
		normalRefused(t, "qubits ahead of turns", api.Circuit{Qubits: qubits, Ops: ops}, fault(api.ErrQubits, 0))
		ops = append(ops, api.Op{Kind: api.Reset})
		normalRefused(t, "gates ahead of qubits", api.Circuit{Qubits: qubits, Ops: ops}, fault(api.ErrUnitary, 3))
		ops = append(ops, api.Op{Kind: api.H, K: 1})
		normalRefused(t, "all ahead of qubits", api.Circuit{Qubits: qubits, Ops: ops}, fault(api.ErrAngle, 4))
	}
}

// Each fault of an operation, among good ones.
func TestFaultsOfOperations(t *testing.T) {
	good := []api.Op{{Kind: api.X}, {Kind: api.P, K: 2}, {Kind: api.H}, {Kind: api.Phase, K: 15}}
	for _, tried := range []struct {
		code int
		op   api.Op
	}{
		{api.ErrKind, api.Op{}},
		{api.ErrKind, api.Op{Kind: 7, Ctl: []int{0}}},
		{api.ErrAngle, api.Op{Kind: api.P, K: 16}},
		{api.ErrAngle, api.Op{Kind: api.P, K: -1}},
		{api.ErrAngle, api.Op{Kind: api.P, K: 17}},
		{api.ErrAngle, api.Op{Kind: api.Phase, K: 16}},
		{api.ErrAngle, api.Op{Kind: api.H, K: 2}},
		{api.ErrQubit, api.Op{Kind: api.H, Q: 1}},
		{api.ErrQubit, api.Op{Kind: api.P, K: 3, Q: -1}},
		{api.ErrQubit, api.Op{Kind: api.Phase, Q: 1}},
		{api.ErrControl, api.Op{Kind: api.Phase, Ctl: []int{0}}},
		{api.ErrControl, api.Op{Kind: api.Measure, Ctl: []int{0}}},
		{api.ErrQubit, api.Op{Kind: api.X, Ctl: []int{1}}},
		{api.ErrClone, api.Op{Kind: api.P, K: 5, Ctl: []int{0}}},
		{api.ErrBit, api.Op{Kind: api.Measure, Bit: 2}},
		{api.ErrBit, api.Op{Kind: api.X, Bit: 1}},
		{api.ErrIf, api.Op{Kind: api.X, If: []int{0}}},
		{api.ErrIf, api.Op{Kind: api.Reset, If: []int{1, -3}}},
		{api.ErrIf, api.Op{Kind: api.P, K: 7, If: slices.Repeat([]int{1}, 2*api.MaxBits+1)}},
		{api.ErrUnitary, api.Op{Kind: api.Measure, Bit: 1}},
		{api.ErrUnitary, api.Op{Kind: api.Reset}},
		{api.ErrUnitary, api.Op{Kind: api.X, If: []int{1}}},
		{api.ErrUnitary, api.Op{Kind: api.P, K: 1, If: []int{-2}}},
		{api.ErrUnitary, api.Op{Kind: api.Phase, K: 1, If: []int{-2, 2}}},
	} {
		for i := range len(good) + 1 {
			c := api.Circuit{Qubits: 1, Bits: 2, Ops: slices.Insert(slices.Clone(good), i, tried.op)}
			normalRefused(t, "an operation", c, fault(tried.code, i))
			c.Ops = slices.Insert(c.Ops, 0, api.Op{Kind: api.P, K: 1})
			normalRefused(t, "a sixteenth ahead of it", c, fault(tried.code, i+1))
		}
	}
}

// A P by an odd number of sixteenths is refused, a Phase is not; the first one is told.
func TestOddTurns(t *testing.T) {
	good := []api.Op{{Kind: api.P, K: 14}, {Kind: api.X}, {Kind: api.Phase, K: 1}, {Kind: api.H}, {Kind: api.Phase, K: 7}}
	for k := range 16 {
		for i := range len(good) + 1 {
			c := api.Circuit{Qubits: 1, Ops: slices.Insert(slices.Clone(good), i, api.Op{Kind: api.P, K: k})}
			if k%2 == 0 {
				equal(t, short(c), len(normal(t, c)) <= 4, true)
				continue
			}
			normalRefused(t, "a sixteenth", c, fault(api.ErrRing, i))
			c.Ops = append(c.Ops, api.Op{Kind: api.P, K: 15}, api.Op{Kind: api.P, K: 16 - k})
			normalRefused(t, "the first", c, fault(api.ErrRing, i))
		}
		equal(t, "a Phase", normal(t, api.Circuit{Qubits: 1, Ops: []api.Op{{Kind: api.Phase, K: k}}}), "[+X +Z]")
	}
}

// Of a circuit that has all faults at once, they are mended one by one: each time the
// next one in the document's order is told.
func TestTheFirstFaultOfNormalIsTold(t *testing.T) {
	c := api.Circuit{Qubits: 13, Bits: 13, Ops: slices.Repeat([]api.Op{{Kind: api.H}}, api.MaxOps+1)}
	c.Ops[3], c.Ops[4090] = api.Op{Kind: api.P, K: 5}, api.Op{Kind: api.P, K: 11}
	c.Ops[10], c.Ops[4000] = api.Op{Kind: api.Reset}, api.Op{Kind: api.P, K: 3, If: []int{1}}
	bad := &c.Ops[20]
	*bad = api.Op{Kind: api.P, K: 16, Q: 12, Ctl: []int{12}, Bit: 1, If: []int{0}}
	for i, step := range []struct {
		want api.Fault
		mend func()
	}{
		{fault(api.ErrQubits, 0), func() { c.Qubits = 12 }},
		{fault(api.ErrBits, 0), func() { c.Bits = 12 }},
		{fault(api.ErrLong, 0), func() { c.Ops = c.Ops[1:] }},
		{fault(api.ErrAngle, 19), func() { bad.K = 15 }},
		{fault(api.ErrQubit, 19), func() { bad.Q = 0 }},
		{fault(api.ErrQubit, 19), func() { bad.Ctl = []int{0} }},
		{fault(api.ErrClone, 19), func() { bad.Ctl = nil }},
		{fault(api.ErrBit, 19), func() { bad.Bit = 0 }},
		{fault(api.ErrIf, 19), func() { bad.If = []int{1} }},
		{fault(api.ErrUnitary, 9), func() { c.Ops[9].Kind = api.H }},
		{fault(api.ErrUnitary, 19), func() { bad.If = nil }},
		{fault(api.ErrUnitary, 3999), func() { c.Ops[3999].If = nil }},
		{fault(api.ErrQubits, 0), func() { c.Qubits = 2 }},
		{fault(api.ErrQubits, 0), func() { c.Qubits = 1 }},
		{fault(api.ErrRing, 2), func() { c.Ops[2].K = 4 }},
		{fault(api.ErrRing, 19), func() { bad.K = 14 }},
		{fault(api.ErrRing, 3999), func() { c.Ops[3999].K = 2 }},
		{fault(api.ErrRing, 4089), func() { c.Ops[4089].K = 6 }},
	} {
		normalRefused(t, fmt.Sprint("step ", i), c, step.want)
		step.mend()
	}
	equal(t, "all mended", class(formed(t, plains(t), normal(t, c))), class(c))
}

// Circuits without order, some with odd things in them.
func TestFaultsOfManyCircuits(t *testing.T) {
	seen := map[int]int{}
	for i := range 10000 {
		n := noise(i)
		c := n.gates(1+n.below(2)*n.below(2), n.below(16))
		c.Bits = n.below(13)
		for range n.below(4) {
			n.spoil(&c)
		}
		want := normalFault(c)
		seen[want.Code]++
		_, f := synth.Normal(c)
		equal(t, "Normal of "+short(c), f, want)
	}
	for _, code := range []int{0, api.ErrQubits, api.ErrBits, api.ErrKind, api.ErrAngle, api.ErrQubit, api.ErrControl, api.ErrClone, api.ErrBit, api.ErrIf, api.ErrUnitary, api.ErrRing} {
		equal(t, fmt.Sprint("circuits have the fault ", code), seen[code] > 20, true)
	}
}

// spoil puts an odd number somewhere.
func (n *noise) spoil(c *api.Circuit) {
	odd := []int{math.MinInt64, -13, -1, 0, 1, 2, 3, 4, 5, 6, 7, 12, 13, 16, math.MaxInt64}[n.below(15)]
	if len(c.Ops) == 0 || n.below(8) == 0 {
		*[]*int{&c.Qubits, &c.Bits}[n.below(2)] = odd
		return
	}
	op := &c.Ops[n.below(len(c.Ops))]
	switch n.below(6) {
	case 0:
		op.Kind = odd
	case 1:
		op.K = odd
	case 2:
		op.Q = odd
	case 3:
		op.Bit = odd
	case 4:
		op.Ctl = append(slices.Clone(op.Ctl), odd)
	case 5:
		op.If = append(slices.Clone(op.If), odd)
	}
}

// unit is the matrix of so many rows that does nothing.
func unit(size int) [][]string {
	return roots([]int{0, 1, 2, 3, 4, 5, 6, 7, 8, 9, 10, 11, 12, 13, 14, 15}[:size], make([]int, size))
}

func TestNumbersOfRowsThatCannotBe(t *testing.T) {
	fullRefused(t, "no rows", nil, fault(api.ErrSize, 0))
	fullRefused(t, "no rows", [][]string{}, fault(api.ErrSize, 0))
	for size := range 17 {
		fullRefused(t, "rows without entries", make([][]string, size), fault(api.ErrSize, 0))
		if size == 2 || size == 4 {
			fullHolds(t, unit(size))
			continue
		}
		fullRefused(t, "rows", unit(size), fault(api.ErrSize, 0))
		bad := unit(size)
		for _, row := range bad {
			row[0] = "no number"
		}
		fullRefused(t, "rows that are bad, too", bad, fault(api.ErrSize, 0))
	}
	fullRefused(t, "many rows", make([][]string, 1<<20), fault(api.ErrSize, 0))
}

// Each row in turn has another number of entries: their number is told, whatever they are.
func TestRowsOfOtherLengths(t *testing.T) {
	for _, size := range []int{2, 4} {
		for at := range size {
			for length := range 9 {
				if length == size {
					continue
				}
				for _, entry := range []string{"0", "", "0,1", "1/9"} {
					m := unit(size)
					m[at] = slices.Repeat([]string{entry}, length)
					fullRefused(t, "a row", m, fault(api.ErrSize, at))
					m[size-1] = nil
					fullRefused(t, "the first of them", m, fault(api.ErrSize, at))
				}
			}
		}
	}
	fullRefused(t, "a long row", [][]string{{"1", "0"}, make([]string, 1<<20)}, fault(api.ErrSize, 1))
}

// notNumbers are texts that ring.Parse refuses, with all its faults.
func notNumbers() []string {
	return []string{"", " ", "x", "1,", ",1", "1,,1", "+1", "01", "-0", "1/0", "1/", "/1", "1/-1", "1 ", " 1", "1\n", "1.5", "1,0", "0,0", "2/1", "0/1", "1/01",
		"0,0,0,0,0,0,0,0,1", "0,0,1,0,0,0,-1/1/1", "0,0,2,0,0,0,-2/1", "0x1", "1/10001", "1/99999999999999999999", strings.Repeat("1", api.MaxDigits+1), "one", "\x00", "½", "0,1,0", "0,1 "}
}

// Wherever an entry is no number, its row is told.
func TestEntriesThatAreNoNumbers(t *testing.T) {
	for _, size := range []int{2, 4} {
		for at := range size {
			for column := range size {
				for _, text := range notNumbers() {
					m := unit(size)
					m[at][column] = text
					fullRefused(t, "no number", m, fault(api.ErrText, at))
				}
			}
		}
	}
}

// notEven are numbers that are not of the eighth roots.
func notEven() []string {
	return []string{"0,1", "0,-1", "1,1", "0,0,0,1", "0,0,0,0,0,1", "0,0,0,0,0,0,0,1", "0,1,0,1,0,1,0,1/1", "0,1,0,0,0,0,0,1", "1,0,0,0,0,0,0,-1/9000",
		"1,0,1,0,1,0,1,1/1", "0,1,0,0,0,-1/1", "0," + strings.Repeat("9", api.MaxDigits)}
}

func TestEntriesThatAreNotOfTheEighthRoots(t *testing.T) {
	for _, size := range []int{2, 4} {
		for at := range size {
			for column := range size {
				for _, text := range notEven() {
					m := unit(size)
					m[at][column] = text
					fullRefused(t, "a sixteenth root", m, fault(api.ErrRing, at))
				}
			}
		}
	}
	fullRefused(t, "the document's", table("1 0 | 0 0,1"), fault(api.ErrRing, 1))
	for k := range 16 {
		m := matrix(t, circuit(t, 2, fmt.Sprintf("h 0, p %d 0 on 1, h 1", k)))
		if k%2 == 1 {
			_, f := synth.Full(m)
			equal(t, "a circuit's", f.Code, api.ErrRing)
			continue
		}
		fullHolds(t, m)
	}
}

// Entries are looked at one by one, row by row, each row's number of entries ahead of
// them.
func TestTheFirstEntryIsTold(t *testing.T) {
	for text, want := range map[string]api.Fault{
		"x 0,1 | 0 1":                     fault(api.ErrText, 0),
		"0,1 x | 0 1":                     fault(api.ErrRing, 0),
		"1 0,1 | x 1":                     fault(api.ErrRing, 0),
		"1 x | 0,1 1":                     fault(api.ErrText, 0),
		"1 0 | x 0,1":                     fault(api.ErrText, 1),
		"1 0 | 0,1 x":                     fault(api.ErrRing, 1),
		"x 0 | 1":                         fault(api.ErrText, 0),
		"0 0,1 | 1":                       fault(api.ErrRing, 0),
		"1 | x 0,1":                       fault(api.ErrSize, 0),
		"1 0 | x":                         fault(api.ErrSize, 1),
		"1/9 0 | 0 0,1":                   fault(api.ErrRing, 1),
		"1/9 0 | x 0":                     fault(api.ErrText, 1),
		"1/9 0 | 0":                       fault(api.ErrSize, 1),
		"1/9 0 | 0 1":                     fault(api.ErrMany, 0),
		"5 0 | 0 1/7":                     fault(api.ErrMany, 0),
		"5 0 | 0 0,1/7":                   fault(api.ErrRing, 1),
		"5 0 | 0 1/6":                     fault(api.ErrUnitary, 0),
		"1 0 0 0 | 0 1 0 0 | 0 0 1 | x":   fault(api.ErrSize, 2),
		"1 0 0 0 | 0 x 0 0 | 0 0 1 | x":   fault(api.ErrText, 1),
		"1 0 0 0 | 0 1 0 0,1 | 0 0 1 | x": fault(api.ErrRing, 1),
		"1 0 | 0 1 | x":                   fault(api.ErrSize, 0),
		"1 0 | 0 1 | 1 0 | 0 1":           fault(api.ErrSize, 0),
	} {
		fullRefused(t, text, table(text), want)
		equal(t, text, fullFault(t, table(text)), want)
	}
}

// A matrix of 2 and one of 4 rows that have all faults are mended one by one.
func TestTheFirstFaultOfFullIsTold(t *testing.T) {
	m := table("x 0,1 1/7 | 0 0,1 0 | 0 x 1 | 1 1 1 | 1")
	for i, step := range []struct {
		want api.Fault
		mend func()
	}{
		{fault(api.ErrSize, 0), func() { m = m[:4] }},
		{fault(api.ErrSize, 0), func() { m[0] = append(m[0], "y") }},
		{fault(api.ErrText, 0), func() { m[0][0] = "0" }},
		{fault(api.ErrRing, 0), func() { m[0][1] = "0" }},
		{fault(api.ErrText, 0), func() { m[0][3] = "1,0" }},
		{fault(api.ErrText, 0), func() { m[0][3] = "1" }},
		{fault(api.ErrSize, 1), func() { m[1] = append(m[1], "0") }},
		{fault(api.ErrRing, 1), func() { m[1][1] = "0,0,1" }},
		{fault(api.ErrSize, 2), func() { m[2] = append(m[2], "0,0,0,1") }},
		{fault(api.ErrText, 2), func() { m[2][1] = "0" }},
		{fault(api.ErrRing, 2), func() { m[2][3] = "0" }},
		{fault(api.ErrSize, 3), func() { m[3] = append(m[3], "1") }},
		{fault(api.ErrMany, 0), func() { m[0][2] = "1/6" }},
		{fault(api.ErrUnitary, 0), func() { m[0][2] = "0" }},
		{fault(api.ErrUnitary, 0), func() { m[3] = []string{"0,0,0,0,1", "0", "0", "1"} }},
		{fault(api.ErrUnitary, 0), func() { m[3][3] = "0" }},
	} {
		fullRefused(t, fmt.Sprint("step ", i), m, step.want)
		step.mend()
	}
	fullHolds(t, m)
}

// Numbers of depth 12 may be, though these rows are not of norm 1; deeper ones may not.
func TestEntriesThatAreTooDeep(t *testing.T) {
	for _, size := range []int{2, 4} {
		for at := range size {
			for column := range size {
				for text, code := range map[string]int{
					"1/6": api.ErrUnitary, "0,0,63/6": api.ErrUnitary, "0,0,1,0,0,0,-1/6": api.ErrUnitary, "0,0,1,0,0,0,1/6": api.ErrUnitary, "1,0,1/6": api.ErrUnitary,
					"1,0,0,0,1/7": api.ErrMany, "1/7": api.ErrMany, "0,0,1,0,0,0,1/7": api.ErrMany, "1,0,1/7": api.ErrMany, "1,0,1,0,1,0,1/7": api.ErrMany,
					"1,0,0,0,1/6": api.ErrUnitary, "1/10000": api.ErrMany, "-1/20": api.ErrMany,
				} {
					m := unit(size)
					m[at][column] = text
					fullRefused(t, "deep", m, fault(code, 0))
					equal(t, text, fullFault(t, m), fault(code, 0))
				}
			}
		}
	}
}

func TestMatricesThatAreNotUnitary(t *testing.T) {
	rt := "0,0,1,0,0,0,-1/1"
	for _, text := range []string{
		"0 0 | 0 0", "1 0 | 1 0", "1 0 | 0 0", "0 0 | 0 1", "2 0 | 0 2", "2 0 | 0 1/1", "1 1 | 1 -1", "1 0 | 0 1,0,1", "1/1 1/1 | 1/1 -1/1",
		"1 1 | 0 1", "1 0 | 1 1", "1 0 | 0 -2", "1 0 | 0 1/6",
		// With no mirrors the norm would be 1, or they would be upright.
		"0,0,0,0,1 0,0,1,0,0,0,-1 | 0,0,1,0,0,0,-1 0,0,0,0,-1", rt + " 0,0,1,0,0,0,1/1 | " + rt + " 0,0,1,0,0,0,1/1",
		// Of norm 1, but not upright; upright, but not of norm 1.
		rt + " " + rt + " | " + rt + " " + rt, rt + " " + rt + " | 1 0", rt + " " + rt + " | 0,0,-1,0,0,0,1/1 0,0,-1,0,0,0,1/1", rt + " " + rt + " | 1 -1", "1 0,0,1 | 0,0,0,0,0,0,1 1",
		// The norms are fractions that are 1 but for roots of two.
		"1,0,1,0,0,0,-1 0 | 0 1", "-1,0,1,0,0,0,-1 0 | 0 1,0,1,0,0,0,-1",
		"1 0 0 0 | 0 1 0 0 | 0 0 1 0 | 0 0 1 0", "1 0 0 0 | 0 1 0 0 | 0 0 1 0 | 0 0 0 0", "1 0 0 0 | 0 1 0 0 | 0 0 1 0 | 1 0 0 0", "0 0 0 0 | 0 0 0 0 | 0 0 0 0 | 0 0 0 0",
		"1/1 1/1 1/1 1/1 | 1/1 -1/1 1/1 -1/1 | 1/1 1/1 -1/1 -1/1 | 1/1 -1/1 1/1 -1/1", "1 1 1 1 | 1 -1 1 -1 | 1 1 -1 -1 | 1 -1 -1 1",
	} {
		fullRefused(t, "not unitary", table(text), fault(api.ErrUnitary, 0))
		equal(t, text, fullFault(t, table(text)), fault(api.ErrUnitary, 0))
	}
	big := strings.Repeat("7", api.MaxDigits)
	m := [][]string{{big, "-" + big + ",0," + big}, {"0,0," + big + "/6", "0"}}
	fullRefused(t, "great numbers", m, fault(api.ErrUnitary, 0))
}

// Of good matrices an entry is changed, or rows are: mostly they are refused then, and
// what is still good is made a circuit of.
func TestMatricesThatAreSpoiled(t *testing.T) {
	seen := map[int]int{}
	for i := range 6000 {
		n := noise(i)
		m := n.grown(2+2*n.below(2), n.below(12)).texts()
		for range n.below(3) {
			n.spoilRows(m)
		}
		want := fullFault(t, m)
		seen[want.Code]++
		if want == none {
			fullHolds(t, m)
			continue
		}
		fullRefused(t, "spoiled", m, want)
	}
	for _, code := range []int{0, api.ErrSize, api.ErrText, api.ErrRing, api.ErrMany, api.ErrUnitary} {
		equal(t, fmt.Sprint("matrices have the fault ", code), seen[code] > 50, true)
	}
}

// spoilRows changes an entry, or rows, of a matrix.
func (n *noise) spoilRows(m [][]string) {
	x := n.below(len(m))
	if len(m[x]) == 0 {
		return
	}
	y, other := n.below(len(m[x])), n.below(len(m))
	switch n.below(9) {
	case 0:
		m[x][y] = notNumbers()[n.below(len(notNumbers()))]
	case 1:
		m[x][y] = notEven()[n.below(len(notEven()))]
	case 2:
		m[x][y] = []string{"1/7", "1,0,1/30", "0,0,3/6", "1/6"}[n.below(4)]
	case 3:
		m[x][y] = m[x][n.below(len(m[x]))]
	case 4:
		m[x][y] = []string{"0", "1", "-1", "0,0,1", "1/1", "0,0,1,0,0,0,-1/1"}[n.below(6)]
	case 5:
		m[x], m[other] = m[other], m[x]
	case 6:
		m[x] = slices.Clone(m[other])
	case 7:
		m[x] = m[x][:y]
	case 8:
		m[x] = append(m[x], "0")
	}
}

// What circ.Pure takes of one qubit with even turns is never refused.
func TestWhatIsNotRefused(t *testing.T) {
	for kind := api.Phase; kind <= api.P; kind++ {
		for k := range 16 {
			c := api.Circuit{Qubits: 1, Ops: []api.Op{{Kind: kind, K: k}}}
			if circ.Pure(c) == none && (kind != api.P || k%2 == 0) {
				normalHolds(t, plains(t), c)
			}
		}
	}
}
