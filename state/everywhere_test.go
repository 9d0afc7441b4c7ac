package state_test

import (
	"math"
	"reflect"
	"slices"
	"testing"

	"qloom/api"
	"qloom/state"
)

// told is what a call answers; the parts that it doesn't have are zero.
type told struct {
	shot   api.Shot
	chance string
	tapes  []api.Branch
	matrix [][]string
	fault  api.Fault
}

func toldMatrix(m [][]string, f api.Fault) told { return told{matrix: m, fault: f} }

// eachAnswer makes all calls.
func eachAnswer(c api.Circuit, in int, list []int) []told {
	s, runFault := state.Run(c, in, list)
	chance, chanceFault := state.Chance(c, in, list)
	tapes, chancesFault := state.Chances(c, in)
	return []told{
		{shot: s, fault: runFault}, {chance: chance, fault: chanceFault}, {tapes: tapes, fault: chancesFault},
		toldMatrix(state.Matrix(c)), toldMatrix(state.Reduced(c, in, list)),
	}
}

// strangeLists are tapes and lists of qubits, and what is neither.
func strangeLists() [][]int {
	return [][]int{
		nil, {}, {0}, {1}, {0, 1}, {1, 0, 1, 1, 0, 1}, {2}, {-1}, {math.MinInt64, math.MaxInt64}, {0, 1, math.MaxInt64}, {3, 2, 1, 0}, {4, 3, 2, 1, 0},
		{11, 12}, make([]int, 10000), slices.Repeat([]int{1}, 10000),
	}
}

// Each call is made twice, with the same arguments: it must end, must not
// panic, and must say the same; the arguments must be what they were.
func TestCallsHangOnTheirArgumentsAlone(t *testing.T) {
	for i, c := range append(pool()[:60], badPool()...) {
		list := strangeLists()[i%len(strangeLists())]
		for _, in := range []int{0, 1, -1, math.MinInt64, math.MaxInt64, 1 << (uint(c.Qubits) % 62)} {
			before, listBefore := copyOf(c), slices.Clone(list)
			first, second := eachAnswer(c, in, list), eachAnswer(c, in, list)
			if !reflect.DeepEqual(first, second) {
				t.Errorf("two answers of %s", short(c))
			}
			if !reflect.DeepEqual(c, before) || !slices.Equal(list, listBefore) {
				t.Errorf("changed: %s, was %s", short(c), short(before))
			}
			for _, answer := range first {
				if answer.fault != none && !reflect.DeepEqual(answer, told{fault: answer.fault}) {
					t.Errorf("more than a fault: %s", short(answer))
				}
			}
		}
	}
}

func TestZeroValues(t *testing.T) {
	for _, answer := range eachAnswer(api.Circuit{}, 0, nil) {
		equal(t, "no circuit", answer, told{fault: fault(api.ErrQubits, 0)})
	}
	equal(t, "the least circuit", eachAnswer(api.Circuit{Qubits: 1}, 0, nil), []told{
		{shot: api.Shot{Amps: []string{"1", "0"}}}, {chance: "1"}, {tapes: []api.Branch{{Chance: "1"}}},
		{matrix: [][]string{{"1", "0"}, {"0", "1"}}}, {matrix: [][]string{{"1"}}},
	})
}

func TestListsMayBeNilOrEmpty(t *testing.T) {
	bare := api.Circuit{Qubits: 2, Bits: 1, Ops: []api.Op{{Kind: api.X}, {Kind: api.Phase, K: 3}, {Kind: api.H, Q: 1}, {Kind: api.Measure, Q: 1}, {Kind: api.Reset}}}
	empty := copyOf(bare)
	for i := range empty.Ops {
		empty.Ops[i].Ctl, empty.Ops[i].If = []int{}, make([]int, 0, 5)
	}
	for _, list := range [][]int{nil, {0, 1}} {
		equal(t, "nil or empty", eachAnswer(bare, 0, list), eachAnswer(empty, 0, list))
	}
	for _, c := range []api.Circuit{{}, {Qubits: 2}, bare} {
		equal(t, "nil or empty", eachAnswer(c, 0, nil), eachAnswer(c, 0, []int{}))
		if len(c.Ops) == 0 {
			none := c
			none.Ops = make([]api.Op, 0, 3)
			equal(t, "nil or empty", eachAnswer(c, 0, nil), eachAnswer(none, 0, make([]int, 0, 3)))
		}
	}
}

// places are those of all that the lists of an answer can reach.
func places(answer told) []any {
	var out []any
	addNumbers := func(list []int) {
		list = list[:cap(list)]
		for i := range list {
			out = append(out, &list[i])
		}
	}
	addTexts := func(list []string) {
		list = list[:cap(list)]
		for i := range list {
			out = append(out, &list[i])
		}
	}
	addTexts(answer.shot.Amps)
	addNumbers(answer.shot.Bits)
	for _, branch := range answer.tapes[:cap(answer.tapes)] {
		addNumbers(branch.Tape)
		addNumbers(branch.Bits)
	}
	for _, row := range answer.matrix[:cap(answer.matrix)] {
		addTexts(row)
	}
	return out
}

// spoil writes into all that the lists of an answer can reach.
func spoil(answer told) {
	for _, place := range places(answer) {
		switch p := place.(type) {
		case *int:
			*p = -77
		case *string:
			*p = "spoiled"
		}
	}
	for i := range answer.tapes[:cap(answer.tapes)] {
		answer.tapes[:cap(answer.tapes)][i] = api.Branch{Chance: "spoiled"}
	}
	for i := range answer.matrix[:cap(answer.matrix)] {
		answer.matrix[:cap(answer.matrix)][i] = nil
	}
}

func TestAnswersAreNewMemory(t *testing.T) {
	meeting := circuit(t, "qubits 3 bits 2", "h 0 on 1 2", "h 0", "h 1", "x 2 on 0 1", "measure 0 to 1", "reset 1 if !0", "measure 2 to 0 if 1", "h 2 if 0", "measure 2 to 1")
	pure := circuit(t, "qubits 3 bits 2", "h 0", "h 1", "x 2 on 0 1", "p 3 2 on 0")
	for _, c := range []api.Circuit{meeting, pure, {Qubits: 1}, {Qubits: 2, Bits: 12}} {
		list := []int{0, 1, 1, 0}[:min(4, c.Qubits+1)]
		if len(c.Ops) < 5 {
			list = []int{0}
		}
		before, listBefore := copyOf(c), slices.Clone(list)
		want := eachAnswer(c, 0, list)
		for i, answer := range eachAnswer(c, 0, list) {
			seen := map[any]bool{}
			for _, place := range places(answer) {
				if seen[place] {
					t.Fatalf("call %d: two lists share memory", i)
				}
				seen[place] = true
			}
			spoil(answer)
			equal(t, "what was handed in", c, before)
			equal(t, "what was handed in", list, listBefore)
			equal(t, "what is answered next", eachAnswer(c, 0, list), want)
		}
	}
}

// Of what is handed in nothing is kept: writing into it later changes no answer.
func TestArgumentsAreNotKept(t *testing.T) {
	c := circuit(t, "qubits 2 bits 2", "h 0", "x 1 on 0", "measure 0 to 1", "h 1 if !0 1", "measure 1 to 0")
	list := []int{1, 0}
	got, want := eachAnswer(c, 0, list), eachAnswer(copyOf(c), 0, slices.Clone(list))
	for i := range c.Ops {
		for _, numbers := range [][]int{c.Ops[i].Ctl, c.Ops[i].If} {
			for j := range numbers {
				numbers[j] = -77
			}
		}
		c.Ops[i] = api.Op{Kind: -77}
	}
	list[0], list[1] = -77, -77
	equal(t, "kept", got, want)
}

// roomy is the list with room behind it, in which sentinels stand.
func roomy(list []int) []int { return append(slices.Clone(list), 88, 88, 88, 88)[:len(list)] }

// Behind the end of a list that is handed in there may be room: it is not written into.
func TestRoomBehindListsIsLeftAlone(t *testing.T) {
	for _, c := range pool()[:40] {
		c = copyOf(c)
		for i, op := range c.Ops {
			c.Ops[i].Ctl, c.Ops[i].If = roomy(op.Ctl), roomy(op.If)
		}
		c.Ops = append(c.Ops, api.Op{Kind: 88}, api.Op{Kind: 88})[:len(c.Ops)]
		for _, list := range [][]int{{}, {0}, {0, 1, 1, 0, 1, 0}} {
			list = roomy(list)
			eachAnswer(c, 0, list)
			equal(t, "behind the list", list[:len(list)+4][len(list):], []int{88, 88, 88, 88})
		}
		for _, op := range c.Ops {
			for _, list := range [][]int{op.Ctl, op.If} {
				equal(t, "behind a list", list[:len(list)+4][len(list):], []int{88, 88, 88, 88})
			}
		}
		equal(t, "behind the operations", c.Ops[:len(c.Ops)+1][len(c.Ops)].Kind, 88)
	}
}
