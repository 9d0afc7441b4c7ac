package synth_test

import (
	"fmt"
	"math"
	"reflect"
	"slices"
	"strings"
	"sync"
	"testing"

	"qloom/api"
	"qloom/circ"
	"qloom/synth"
)

// said is what both calls answer.
type said struct {
	form        []string
	formFault   api.Fault
	circuit     api.Circuit
	matrixFault api.Fault
}

// asked makes both calls.
func asked(c api.Circuit, m [][]string) said {
	var s said
	s.form, s.formFault = synth.Normal(c)
	s.circuit, s.matrixFault = synth.Full(m)
	return s
}

// answered makes both calls, and holds what they answer to what holds of all answers.
func answered(t *testing.T, c api.Circuit, m [][]string) said {
	t.Helper()
	s := asked(c, m)
	if s.formFault != none {
		equal(t, "more than the fault", len(s.form), 0)
	} else {
		equal(t, "two texts at least", len(s.form) >= 2, true)
	}
	if s.matrixFault != none {
		equal(t, "more than the fault", s.circuit, api.Circuit{})
	} else {
		equal(t, "a circuit", circ.Pure(s.circuit), none)
	}
	return s
}

// given is a circuit and a matrix, some of them spoiled.
func given(i int) (api.Circuit, [][]string) {
	n := noise(i)
	c, m := n.gates(1, n.below(60)), n.grown(2+2*n.below(2), n.below(20)).texts()
	c.Bits = n.below(13)
	if i%3 == 0 {
		n.spoil(&c)
		n.spoilRows(m)
	}
	return c, m
}

// Each call is made twice, with the same arguments: it must end, must not panic,
// and must say the same; the arguments must be what they were.
func TestCallsHangOnTheirArgumentsAlone(t *testing.T) {
	for i := range 1500 {
		c, m := given(i)
		before, rowsBefore := copyOf(c), copyRows(m)
		first, second := answered(t, c, m), answered(t, c, m)
		if !reflect.DeepEqual(first, second) {
			t.Errorf("two answers: %s and %s", short(first), short(second))
		}
		if !reflect.DeepEqual(c, before) || !reflect.DeepEqual(m, rowsBefore) {
			t.Errorf("changed: %s and %s, was %s and %s", short(c), short(m), short(before), short(rowsBefore))
		}
	}
}

func TestZeroValues(t *testing.T) {
	equal(t, "zero values", asked(api.Circuit{}, nil), said{formFault: fault(api.ErrQubits, 0), matrixFault: fault(api.ErrSize, 0)})
	normalRefused(t, "zero operations", api.Circuit{Qubits: 1, Ops: make([]api.Op, 3)}, fault(api.ErrKind, 0))
	fullRefused(t, "zero texts", [][]string{make([]string, 2), make([]string, 2)}, fault(api.ErrText, 0))
	equal(t, "the least", asked(api.Circuit{Qubits: 1}, unit(2)), said{form: []string{"+X", "+Z"}, circuit: api.Circuit{Qubits: 1}})
}

// Operations with odd numbers in all fields at once, and odd texts.
func TestOddArguments(t *testing.T) {
	odd := []int{math.MinInt64, math.MinInt64 + 1, -1 << 32, -1, 0, 1, 2, 3, 4, 5, 6, 7, 11, 12, 13, 1 << 32, math.MaxInt64 - 1, math.MaxInt64}
	texts := slices.Concat(notNumbers(), notEven(), []string{"0", "1", "-1", "1/6", "1/7", "0,0,1", "0,0,1,0,0,0,-1/1", "1/10000", strings.Repeat("9", api.MaxDigits) + "/6"})
	n := noise(3)
	number := func() int { return odd[n.below(len(odd))] }
	list := func() []int {
		out := make([]int, n.below(3))
		for i := range out {
			out[i] = number()
		}
		return out
	}
	for range 20000 {
		c := api.Circuit{Qubits: number(), Bits: number()}
		if n.below(4) > 0 {
			c.Qubits, c.Bits = 1, 12
		}
		for range n.below(3) {
			op := api.Op{Kind: number(), K: number(), Q: number(), Ctl: list(), Bit: number(), If: list()}
			if n.below(2) == 0 {
				op = api.Op{Kind: 1 + n.below(4), K: number(), If: list()}
			}
			c.Ops = append(c.Ops, op)
		}
		m := make([][]string, []int{2, 4, n.below(6)}[n.below(3)])
		for x := range m {
			m[x] = make([]string, []int{len(m), len(m), len(m), n.below(6)}[n.below(4)])
			for y := range m[x] {
				m[x][y] = []string{"0", "1", texts[n.below(len(texts))]}[n.below(3)]
			}
		}
		got := answered(t, c, m)
		equal(t, short(c)+short(m), []api.Fault{got.formFault, got.matrixFault}, []api.Fault{normalFault(c), fullFault(t, m)})
	}
}

// Lists and texts of great length are refused in no time.
func TestLongLists(t *testing.T) {
	long := slices.Repeat([]int{0}, 1<<20)
	normalRefused(t, "controls", api.Circuit{Qubits: 1, Ops: []api.Op{{Kind: api.X, Ctl: long}}}, fault(api.ErrClone, 0))
	normalRefused(t, "conditions", api.Circuit{Qubits: 1, Bits: 12, Ops: []api.Op{{Kind: api.X, If: long}}}, fault(api.ErrIf, 0))
	normalRefused(t, "operations", api.Circuit{Qubits: 1, Ops: slices.Repeat([]api.Op{{Kind: api.X}}, 1<<20)}, fault(api.ErrLong, 0))
	for _, text := range []string{strings.Repeat("1", 1<<24), strings.Repeat("0,", 1<<22) + "1", "1/" + strings.Repeat("9", 1<<24)} {
		fullRefused(t, "a text", [][]string{{"1", "0"}, {"0", text}}, fault(api.ErrText, 1))
	}
	great := strings.Repeat("9", api.MaxDigits)
	great = great + ",0," + great + ",0," + great + ",0," + great
	m := [][]string{{great, great, great, great}, {great, great, great, great}, {great, great, great, great}, {great, great, great, great}}
	fullRefused(t, "great numbers", m, fault(api.ErrUnitary, 0))
	m[3][3] += "/10000"
	fullRefused(t, "a deep one", m, fault(api.ErrMany, 0))
}

// most is a circuit and a matrix of which much is answered.
func most() (api.Circuit, [][]string) {
	n := noise(9)
	return n.gates(1, 300), n.grown(4, 16).texts()
}

// lists visits all lists of a circuit's operations, up to the end of their room.
func lists(c api.Circuit, visit func([]int)) {
	for _, op := range c.Ops[:cap(c.Ops)] {
		visit(op.Ctl[:cap(op.Ctl)])
		visit(op.If[:cap(op.If)])
	}
}

// No list of an answer shares memory with another one, of this answer, of another
// or of what was handed in.
func TestAnswersAreNewMemory(t *testing.T) {
	c, m := most()
	before, rowsBefore := copyOf(c), copyRows(m)
	first, second, want := asked(c, m), asked(c, m), asked(copyOf(c), copyRows(m))
	equal(t, "nothing is refused", []api.Fault{first.formFault, first.matrixFault}, []api.Fault{none, none})
	seen := map[*int]bool{}
	visit := func(list []int) {
		for i := range list {
			if seen[&list[i]] {
				t.Fatal("two lists share memory")
			}
			seen[&list[i]] = true
		}
	}
	lists(first.circuit, visit)
	lists(second.circuit, visit)
	equal(t, "there are lists", len(seen) > 50, true)
	texts := first.form[:cap(first.form)]
	for i := range texts {
		texts[i] = "spoiled"
	}
	lists(first.circuit, func(list []int) {
		for i := range list {
			list[i] = -77
		}
	})
	clear(first.circuit.Ops[:cap(first.circuit.Ops)])
	equal(t, "another answer", second, want)
	equal(t, "what is answered next", asked(c, m), want)
	equal(t, "what was handed in", []any{c, m}, []any{before, rowsBefore})
}

// Of what is handed in nothing is kept: writing into it later changes no answer.
func TestArgumentsAreNotKept(t *testing.T) {
	c, m := most()
	other, otherRows := most()
	got, want := asked(c, m), asked(other, otherRows)
	clear(c.Ops)
	for _, row := range m {
		clear(row)
	}
	clear(m)
	equal(t, "kept", got, want)
}

// Rows may be one list; they may have room behind them, which is neither read nor
// written into; lists may be nil or empty.
func TestListsMayBeNilOrEmpty(t *testing.T) {
	row := []string{"1", "0"}
	fullRefused(t, "one list", [][]string{row, row}, fault(api.ErrUnitary, 0))
	equal(t, "one list", row, []string{"1", "0"})
	for i := range 300 {
		c, m := given(i)
		other, otherRows := copyOf(c), copyRows(m)
		for j, op := range other.Ops {
			other.Ops[j].Ctl, other.Ops[j].If = append([]int{}, op.Ctl...), append([]int{}, op.If...)
		}
		other.Ops = append(other.Ops, api.Op{Kind: -77})[:len(c.Ops)]
		for j, row := range otherRows {
			otherRows[j] = append(slices.Clone(row), "behind")[:len(row)]
		}
		otherRows = append(otherRows, []string{"behind"})[:len(m)]
		equal(t, "nil or empty", answered(t, other, otherRows), answered(t, c, m))
		equal(t, "behind the operations", other.Ops[:len(c.Ops)+1][len(c.Ops)].Kind, -77)
		for j, row := range otherRows {
			equal(t, "behind a row", row[:len(m[j])+1][len(m[j])], "behind")
		}
		equal(t, "behind the rows", otherRows[:len(m)+1][len(m)], []string{"behind"})
	}
	equal(t, "no operations", asked(api.Circuit{Qubits: 1, Ops: []api.Op{}}, [][]string{}), asked(api.Circuit{Qubits: 1}, nil))
	fullRefused(t, "no entries", [][]string{{}, nil}, fault(api.ErrSize, 0))
}

// Calls of one circuit and one matrix at the same time don't meet.
func TestCallsAtTheSameTime(t *testing.T) {
	c, m := most()
	want := fmt.Sprint(asked(c, m))
	var all sync.WaitGroup
	for range 8 {
		all.Go(func() {
			if got := fmt.Sprint(asked(c, m)); got != want {
				t.Errorf("at the same time: %s", short(got))
			}
		})
	}
	all.Wait()
}
