package tableau_test

import (
	"fmt"
	"math"
	"reflect"
	"slices"
	"strings"
	"sync"
	"testing"

	"qloom/api"
	"qloom/circ"
	"qloom/tableau"
)

// said is what all calls answer.
type said struct {
	run        ran
	image      string
	imageFault api.Fault
	again      api.Circuit
	againFault api.Fault
}

// asked makes all calls.
func asked(c api.Circuit, in int, tape []int, pauli string) said {
	var s said
	s.run = runOf(c, in, tape...)
	s.image, s.imageFault = tableau.Image(c, pauli)
	s.again, s.againFault = tableau.Again(c)
	return s
}

// answered makes all calls, and holds what they answer to what holds of all answers.
func answered(t *testing.T, c api.Circuit, in int, tape []int, pauli string) said {
	t.Helper()
	s := asked(c, in, tape, pauli)
	if s.run.fault != none {
		equal(t, "more than the fault", s.run, ran{fault: s.run.fault})
	} else {
		equal(t, "as many as there are qubits and bits", []int{len(s.run.paulis), len(s.run.bits)}, []int{c.Qubits, c.Bits})
	}
	if s.imageFault != none {
		equal(t, "more than the fault", s.image, "")
	}
	if s.againFault != none {
		equal(t, "more than the fault", s.again, api.Circuit{})
	} else {
		equal(t, "a circuit", circ.Pure(s.again), none)
	}
	return s
}

// everything is a circuit of gates, of all kinds, with measurements and resets among
// them, if so it is to be, and a tape for it.
func everything(meetings bool) (api.Circuit, []int) {
	n := noise(9)
	c := n.gates(6, 80)
	c.Bits = 5
	var tape []int
	for i := 0; meetings && i < 6; i++ {
		c.Ops = append(c.Ops, api.Op{Kind: api.H, Q: i}, api.Op{Kind: api.Measure, Q: i, Bit: i % 5, If: []int{-(1 + (i+4)%5)}},
			api.Op{Kind: api.H, Q: i}, api.Op{Kind: api.Reset, Q: i, If: []int{1 + i%5, 1 + i%5}})
	}
	for {
		switch runOf(c, 3, tape...).fault.Code {
		case api.ErrTape:
			tape = append(tape, 1)
		case api.ErrOutcome:
			tape[len(tape)-1] = 0
		default:
			return c, tape
		}
	}
}

// Each call is made twice, with the same arguments: it must end, must not panic,
// and must say the same; the arguments must be what they were.
func TestCallsHangOnTheirArgumentsAlone(t *testing.T) {
	for i := range 3000 {
		n := noise(i)
		c := n.circuit(1+n.below(12), n.below(13), n.below(60), n.below(9))
		if i%2 == 0 {
			c = n.gates(1+n.below(12), n.below(60))
		}
		if i%3 == 0 {
			n.spoil(&c)
		}
		tape := []int{n.below(2), n.below(2), n.below(2), n.below(3), n.below(2), n.below(2)}[:n.below(7)]
		in, text := n.below(6), n.pauli(min(max(c.Qubits, 1), 20))
		before, tapeBefore := copyOf(c), slices.Clone(tape)
		first, second := answered(t, c, in, tape, text), answered(t, c, in, tape, text)
		if !reflect.DeepEqual(first, second) {
			t.Errorf("two answers: %s and %s", short(first), short(second))
		}
		if !reflect.DeepEqual(c, before) || !slices.Equal(tape, tapeBefore) {
			t.Errorf("changed: %s with %v, was %s with %v", short(c), tape, short(before), tapeBefore)
		}
	}
}

func TestZeroValues(t *testing.T) {
	refused(t, "a zero circuit", api.Circuit{}, fault(api.ErrQubits, 0), fault(api.ErrQubits, 0))
	refused(t, "zero operations", api.Circuit{Qubits: 1, Ops: make([]api.Op, 3)}, fault(api.ErrKind, 0), fault(api.ErrKind, 0))
	equal(t, "the least circuit", asked(api.Circuit{Qubits: 1}, 0, nil, "+I"), said{run: ran{paulis: []string{"+Z"}}, image: "+I", again: api.Circuit{Qubits: 1}})
}

// Operations with odd numbers in all fields at once, odd inputs, tapes and texts.
func TestOddArguments(t *testing.T) {
	odd := []int{math.MinInt64, math.MinInt64 + 1, -1 << 32, -1, 0, 1, 2, 3, 4, 5, 6, 7, 11, 12, 13, 1 << 32, math.MaxInt64 - 1, math.MaxInt64}
	n := noise(3)
	number := func() int { return odd[n.below(len(odd))] }
	list := func() []int {
		out := make([]int, n.below(4))
		for i := range out {
			out[i] = number()
		}
		return out
	}
	for range 20000 {
		c := api.Circuit{Qubits: number(), Bits: number()}
		if n.below(4) > 0 {
			c.Qubits, c.Bits = 3, 12
		}
		for range n.below(3) {
			op := api.Op{Kind: number(), K: number(), Q: number(), Ctl: list(), Bit: number(), If: list()}
			if n.below(2) == 0 {
				op = api.Op{Kind: 2 + n.below(3), Q: number(), Ctl: list(), If: list()}
			}
			c.Ops = append(c.Ops, op)
		}
		in, tape, text := number(), list(), string(rune(number()))+"XYZ"[:n.below(4)]
		if n.below(2) == 0 {
			in = 5
		}
		got := answered(t, c, in, tape, text)
		want := []api.Fault{runFault(c, in, tape), imageFault(c, text), gatesFault(c)}
		equal(t, short(c), []api.Fault{got.run.fault, got.imageFault, got.againFault}, want)
	}
}

// Lists and texts of great length are refused, or passed over, in no time.
func TestLongLists(t *testing.T) {
	long := slices.Repeat([]int{1}, 1<<20)
	both := func(what string, c api.Circuit, want api.Fault) { refused(t, what, c, want, want) }
	both("controls", api.Circuit{Qubits: 12, Ops: []api.Op{{Kind: api.X, Ctl: long}}}, fault(api.ErrClone, 0))
	both("conditions", api.Circuit{Qubits: 12, Bits: 12, Ops: []api.Op{{Kind: api.X, If: long}}}, fault(api.ErrIf, 0))
	both("operations", api.Circuit{Qubits: 2, Ops: slices.Repeat([]api.Op{{Kind: api.X}}, 1<<20)}, fault(api.ErrLong, 0))
	c := circuit(t, "qubits 1 bits 0", "h 0", "reset 0")
	equal(t, "a tape", runOf(c, 0, long...), ran{paulis: []string{"+Z"}, used: 1})
	_, f := tableau.Image(api.Circuit{Qubits: 1}, strings.Repeat("+", 1<<24))
	equal(t, "a text", f, fault(api.ErrPauli, 0))
}

// lists visits all lists of a circuit's operations, up to the end of their room.
func lists(c api.Circuit, visit func([]int)) {
	for _, op := range c.Ops[:cap(c.Ops)] {
		visit(op.Ctl[:cap(op.Ctl)])
		visit(op.If[:cap(op.If)])
	}
}

// spoilAnswers writes into all that can be reached from answers.
func spoilAnswers(s said) {
	texts := s.run.paulis[:cap(s.run.paulis)]
	for i := range texts {
		texts[i] = "spoiled"
	}
	fill := func(list []int) {
		for i := range list {
			list[i] = -77
		}
	}
	fill(s.run.bits[:cap(s.run.bits)])
	lists(s.again, fill)
	ops := s.again.Ops[:cap(s.again.Ops)]
	for i := range ops {
		ops[i] = api.Op{Kind: -77}
	}
}

// No list of an answer shares memory with another one, of this answer, of another
// or of what was handed in.
func TestAnswersAreNewMemory(t *testing.T) {
	for _, meetings := range []bool{false, true} {
		c, tape := everything(meetings)
		text := "-XYZIXZ"
		before, tapeBefore := copyOf(c), slices.Clone(tape)
		first, second := asked(c, 3, tape, text), asked(c, 3, tape, text)
		want := asked(copyOf(c), 3, slices.Clone(tape), text)
		seen := map[*int]bool{}
		visit := func(list []int) {
			for i := range list {
				if seen[&list[i]] {
					t.Fatal("two lists share memory")
				}
				seen[&list[i]] = true
			}
		}
		for _, op := range c.Ops {
			visit(op.If)
		}
		visit(tape)
		for _, s := range []said{first, second} {
			visit(s.run.bits[:cap(s.run.bits)])
			lists(s.again, visit)
		}
		equal(t, "there are lists", len(seen) > 20, true)
		spoilAnswers(first)
		equal(t, "another answer", second, want)
		equal(t, "what is answered next", asked(c, 3, tape, text), want)
		equal(t, "what was handed in", []any{c, tape}, []any{before, tapeBefore})
	}
}

// The lists of controls of one circuit may be one list; those of Again's circuit don't
// share it.
func TestAgainSharesNoControls(t *testing.T) {
	shared := []int{1}
	c := api.Circuit{Qubits: 2, Ops: []api.Op{{Kind: api.X, Ctl: shared}, {Kind: api.H, Q: 1}, {Kind: api.P, K: 8, Ctl: shared}, {Kind: api.X, Ctl: shared}}}
	d := holds(t, c)
	shared[0] = 99
	equal(t, "not kept", circ.Check(d), none)
	for _, op := range d.Ops {
		for i := range op.Ctl {
			op.Ctl[i] = -77
		}
	}
	equal(t, "not shared", shared, []int{99})
}

// Of what is handed in nothing is kept: writing into it later changes no answer.
func TestArgumentsAreNotKept(t *testing.T) {
	for _, meetings := range []bool{false, true} {
		c, tape := everything(meetings)
		other, otherTape := everything(meetings)
		got, want := asked(c, 3, tape, "-XYZIXZ"), asked(other, 3, otherTape, "-XYZIXZ")
		lists(c, func(list []int) {
			for i := range list {
				list[i] = -77
			}
		})
		clear(c.Ops)
		for i := range tape {
			tape[i] = -77
		}
		equal(t, "kept", got, want)
	}
}

// roomyList has room behind it, in which numbers stand.
func roomyList(list []int) []int { return append(slices.Clone(list), -77, -78)[:len(list)] }

// roomy has room behind all lists, and empty lists in place of those that are nil.
func roomy(c api.Circuit) api.Circuit {
	ops := make([]api.Op, 0, len(c.Ops)+2)
	for _, op := range c.Ops {
		op.Ctl, op.If = roomyList(op.Ctl), roomyList(op.If)
		ops = append(ops, op)
	}
	c.Ops = append(ops, api.Op{Kind: -77}, api.Op{Kind: -78})[:len(c.Ops)]
	return c
}

// Lists may be nil or empty; behind their ends there may be room, which is neither
// read nor written into.
func TestListsMayBeNilOrEmpty(t *testing.T) {
	check := func(list []int) {
		room := list[len(list) : len(list)+2]
		equal(t, "behind a list", room, []int{-77, -78})
	}
	for i := range 600 {
		n := noise(i)
		c := n.circuit(1+n.below(12), n.below(13), n.below(40), 5)
		if i%2 == 0 {
			c = n.gates(1+n.below(12), n.below(40))
		}
		if i%3 == 0 {
			n.spoil(&c)
		}
		other := roomy(c)
		tape := []int{1, 0, 0, 1}[:n.below(5)]
		otherTape := roomyList(tape)
		text := n.pauli(min(max(c.Qubits, 1), 20))
		equal(t, "nil or empty", answered(t, other, 1, otherTape, text), answered(t, c, 1, tape, text))
		for _, op := range other.Ops {
			check(op.Ctl)
			check(op.If)
		}
		check(otherTape)
		room := other.Ops[len(other.Ops) : len(other.Ops)+2]
		equal(t, "behind the operations", []int{room[0].Kind, room[1].Kind}, []int{-77, -78})
	}
	none, empty := api.Circuit{Qubits: 2}, api.Circuit{Qubits: 2, Ops: []api.Op{}}
	equal(t, "no operations", asked(empty, 0, []int{}, "+XY"), asked(none, 0, nil, "+XY"))
}

// Calls of one circuit at the same time don't meet.
func TestCallsAtTheSameTime(t *testing.T) {
	for _, meetings := range []bool{false, true} {
		c, tape := everything(meetings)
		want := fmt.Sprint(asked(c, 3, tape, "-XYZIXZ"))
		var all sync.WaitGroup
		for range 8 {
			all.Go(func() {
				if got := fmt.Sprint(asked(c, 3, tape, "-XYZIXZ")); got != want {
					t.Errorf("at the same time: %s", short(got))
				}
			})
		}
		all.Wait()
	}
}
