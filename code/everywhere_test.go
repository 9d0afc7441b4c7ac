package code_test

import (
	"fmt"
	"math"
	"reflect"
	"slices"
	"strings"
	"sync"
	"testing"

	"qloom/api"
	"qloom/circ"
	"qloom/code"
)

// said is what all calls answer.
type said struct {
	check                                                          api.Fault
	marks                                                          []int
	least                                                          int
	mend                                                           string
	encoder                                                        api.Circuit
	measurer                                                       api.Circuit
	chance                                                         string
	patch                                                          api.Code
	marksFault, leastFault, mendFault, encoderFault, measurerFault api.Fault
	chanceFault, patchFault                                        api.Fault
}

// given is what all calls are given.
type given struct {
	c          api.Code
	pauli      string
	marks      []int
	chance     string
	rows, cols int
}

// copyOf has lists of its own.
func (g given) copyOf() given {
	g.c, g.marks = copyOf(g.c), slices.Clone(g.marks)
	return g
}

// asked makes all calls.
func asked(g given) said {
	var s said
	s.check = code.Check(g.c)
	s.marks, s.marksFault = code.Syndrome(g.c, g.pauli)
	s.least, s.leastFault = code.Distance(g.c)
	s.mend, s.mendFault = code.Decode(g.c, g.marks)
	s.encoder, s.encoderFault = code.Encoder(g.c)
	s.measurer, s.measurerFault = code.Measurer(g.c)
	s.chance, s.chanceFault = code.Fails(g.c, g.chance)
	s.patch, s.patchFault = code.Patch(g.rows, g.cols)
	return s
}

// answered makes all calls, and holds what they answer to what holds of all answers.
func answered(t *testing.T, g given) said {
	t.Helper()
	s := asked(g)
	for _, part := range []struct {
		fault api.Fault
		empty bool
	}{
		{s.marksFault, len(s.marks) == 0}, {s.leastFault, s.least == 0}, {s.mendFault, s.mend == ""},
		{s.encoderFault, reflect.DeepEqual(s.encoder, api.Circuit{})}, {s.measurerFault, reflect.DeepEqual(s.measurer, api.Circuit{})},
		{s.chanceFault, s.chance == ""}, {s.patchFault, reflect.DeepEqual(s.patch, api.Code{})},
	} {
		equal(t, "more than the fault", part.fault == none || part.empty, true)
	}
	for _, f := range []api.Fault{s.marksFault, s.leastFault, s.mendFault, s.encoderFault, s.measurerFault, s.chanceFault} {
		equal(t, "Check's fault first", s.check == none || f == s.check, true)
	}
	if s.check == none {
		equal(t, "the encoder", []api.Fault{s.encoderFault, circ.Pure(s.encoder)}, []api.Fault{none, none})
		equal(t, "the measurer", s.measurerFault == none, g.c.N < 12)
	}
	return s
}

// given is something for all calls, some of it spoiled.
func (n *noise) given() given {
	c := n.some(1 + n.below(12))
	g := given{c: c, pauli: n.pauli(c.N), marks: bits(n.below(1<<12), len(c.Gens)), chance: chances()[n.below(11)], rows: 1 + n.below(4), cols: 1 + n.below(4)}
	if n.below(2) == 0 {
		return g
	}
	switch n.below(5) {
	case 0:
		n.spoil(&g.c)
	case 1:
		g.pauli = g.pauli[n.below(2):] + "XY"[:n.below(2)]
	case 2:
		g.marks = append(g.marks, n.below(4))[n.below(2):]
	case 3:
		g.chance = []string{"-1/3", "1/2", "2/4", "", "x", "1/3 "}[n.below(6)]
	case 4:
		g.rows, g.cols = n.below(16)-1, n.below(16)-1
	}
	return g
}

// Each call is made twice, with the same arguments: it must end, must not panic,
// and must say the same; the arguments must be what they were.
func TestCallsHangOnTheirArgumentsAlone(t *testing.T) {
	t.Parallel()
	for i := range 600 {
		n := noise(i)
		g := n.given()
		before := g.copyOf()
		first, second := answered(t, g), answered(t, g)
		if !reflect.DeepEqual(first, second) {
			t.Errorf("two answers: %s and %s", short(first), short(second))
		}
		equal(t, "what was handed in", g, before)
	}
}

func TestZeroValues(t *testing.T) {
	bad := fault(api.ErrQubits, 0)
	equal(t, "zero values", asked(given{}), said{
		check: bad, marksFault: bad, leastFault: bad, mendFault: bad, encoderFault: bad, measurerFault: bad, chanceFault: bad, patchFault: fault(api.ErrSize, 0),
	})
	equal(t, "the least", asked(given{c: api.Code{N: 1}, pauli: "-I", chance: "0", rows: 1, cols: 1}), said{
		least: 1, mend: "+I", encoder: api.Circuit{Qubits: 1}, measurer: api.Circuit{Qubits: 2}, chance: "0", patch: api.Code{N: 1},
	})
	refused(t, "zero texts", api.Code{N: 3, Gens: make([]string, 3)}, fault(api.ErrPauli, 0))
}

// Odd numbers and odd texts everywhere at once.
func TestOddArguments(t *testing.T) {
	t.Parallel()
	odd := []int{math.MinInt64, math.MinInt64 + 1, -1 << 32, -1, 0, 1, 2, 3, 4, 5, 6, 7, 9, 10, 12, 13, 16, 64, 1 << 32, math.MaxInt64 - 1, math.MaxInt64}
	texts := []string{"", "+", "-", "+I", "-X", "+XX", "-ZZ", "+YY", "X", "+é", "\x00", "+XYZ", "-ZZZ", "+III", "\xff\xff\xff\xff", "1/3", "0", "+Xx", "+ZIZ", "-XIX", "+IYI"}
	n := noise(3)
	number := func() int { return odd[n.below(len(odd))] }
	text := func() string { return texts[n.below(len(texts))] }
	for range 20000 {
		g := given{c: api.Code{N: number()}, pauli: text(), chance: text(), rows: number(), cols: number()}
		if n.below(4) > 0 {
			g.c.N = 1 + n.below(3)
		}
		for range n.below(4) {
			g.c.Gens = append(g.c.Gens, text())
			g.marks = append(g.marks, number())
		}
		equal(t, short(g), answered(t, g).check, checkFault(g.c))
	}
}

// Lists and texts of great length are refused in no time.
func TestLongLists(t *testing.T) {
	great := strings.Repeat("+", 1<<24)
	equal(t, "generators", code.Check(api.Code{N: 12, Gens: slices.Repeat([]string{great}, 1<<20)}), fault(api.ErrMany, 0))
	refused(t, "texts", api.Code{N: 12, Gens: []string{great}}, fault(api.ErrPauli, 0))
	_, f := code.Syndrome(five, great)
	equal(t, "a text", f, fault(api.ErrPauli, 0))
	_, f = code.Decode(five, make([]int, 1<<24))
	equal(t, "a syndrome", f, fault(api.ErrSize, 0))
	for _, text := range []string{great, strings.Repeat("1", 1<<24), "1/" + strings.Repeat("3", 1<<24)} {
		_, f = code.Fails(five, text)
		equal(t, "a chance", f, fault(api.ErrText, 0))
	}
}

// most is something of which much is answered.
func most() given {
	n := noise(9)
	return given{c: n.code(6, 5), pauli: n.pauli(6), marks: []int{1, 0, 1, 1, 0}, chance: "1/10", rows: 3, cols: 4}
}

// lists visits all lists of a circuit's operations, up to the end of their room.
func lists(c api.Circuit, visit func([]int)) {
	for _, op := range c.Ops[:cap(c.Ops)] {
		visit(op.Ctl[:cap(op.Ctl)])
		visit(op.If[:cap(op.If)])
	}
}

// allLists visits all lists of numbers of answers.
func (s said) allLists(visit func([]int)) {
	visit(s.marks[:cap(s.marks)])
	lists(s.encoder, visit)
	lists(s.measurer, visit)
}

// No list of an answer shares memory with another one, of this answer, of another
// or of what was handed in.
func TestAnswersAreNewMemory(t *testing.T) {
	g := most()
	before := g.copyOf()
	first, second, want := asked(g), asked(g), asked(g.copyOf())
	equal(t, "nothing is refused", []api.Fault{first.check, first.marksFault, first.mendFault, first.encoderFault, first.measurerFault, first.chanceFault, first.patchFault}, make([]api.Fault, 7))
	seen := map[*int]bool{}
	visit := func(list []int) {
		for i := range list {
			if seen[&list[i]] {
				t.Fatal("two lists share memory")
			}
			seen[&list[i]] = true
		}
	}
	visit(g.marks)
	first.allLists(visit)
	second.allLists(visit)
	equal(t, "there are lists", len(seen) > 50, true)
	first.allLists(func(list []int) {
		for i := range list {
			list[i] = -77
		}
	})
	clear(first.encoder.Ops[:cap(first.encoder.Ops)])
	clear(first.measurer.Ops[:cap(first.measurer.Ops)])
	clear(first.patch.Gens[:cap(first.patch.Gens)])
	equal(t, "another answer", second, want)
	equal(t, "what is answered next", asked(g), want)
	equal(t, "what was handed in", g, before)
}

// Of what is handed in nothing is kept: writing into it later changes no answer.
func TestArgumentsAreNotKept(t *testing.T) {
	g := most()
	got, want := asked(g), asked(most())
	clear(g.c.Gens)
	for i := range g.marks {
		g.marks[i] = -77
	}
	equal(t, "kept", got, want)
}

// Lists may have room behind them, which is neither read nor written into; they may be
// nil or empty.
func TestListsMayBeNilOrEmpty(t *testing.T) {
	for i := range 100 {
		n := noise(i)
		g := n.given()
		other := g.copyOf()
		other.c.Gens = append(slices.Clone(g.c.Gens), "behind")[:len(g.c.Gens)]
		other.marks = append(slices.Clone(g.marks), -77)[:len(g.marks)]
		equal(t, "with room", answered(t, other), answered(t, g))
		equal(t, "behind the generators", other.c.Gens[:len(g.c.Gens)+1][len(g.c.Gens)], "behind")
		equal(t, "behind the syndrome", other.marks[:len(g.marks)+1][len(g.marks)], -77)
	}
	bare := given{c: api.Code{N: 3}, pauli: "+XYZ", chance: "1/5", rows: 1, cols: 1}
	empty := given{c: api.Code{N: 3, Gens: []string{}}, pauli: "+XYZ", marks: []int{}, chance: "1/5", rows: 1, cols: 1}
	equal(t, "empty", answered(t, empty), answered(t, bare))
}

// Calls of one code at the same time don't meet.
func TestCallsAtTheSameTime(t *testing.T) {
	g := most()
	want := fmt.Sprint(asked(g))
	var all sync.WaitGroup
	for range 8 {
		all.Go(func() {
			if got := fmt.Sprint(asked(g)); got != want {
				t.Errorf("at the same time: %s", short(got))
			}
		})
	}
	all.Wait()
}
