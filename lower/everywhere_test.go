package lower_test

import (
	"math"
	"reflect"
	"slices"
	"sync"
	"testing"

	"qloom/api"
	"qloom/circ"
	"qloom/lower"
)

// everything is a circuit with all kinds of operations.
func everything() api.Circuit {
	c := api.Circuit{Qubits: 7, Bits: 3, Ops: []api.Op{
		{Kind: api.Phase, K: 3, If: []int{1}}, {Kind: api.Measure, Q: 2, Bit: 1, If: []int{-1}}, {Kind: api.Reset, Q: 6, If: []int{2, 3}},
		{Kind: api.X, Q: 1, If: []int{1}}, {Kind: api.X, Q: 1, Ctl: []int{6}, If: []int{1, -2}}, {Kind: api.H, Q: 1, If: []int{3}}, {Kind: api.P, K: 5, Q: 1, If: []int{3}},
	}}
	for _, controls := range []int{1, 2, 4} {
		all := gates(controls)
		for _, op := range []api.Op{all[0], all[1], all[2], all[3], all[8]} {
			op.If = []int{-3, 2, 2}
			c.Ops = append(c.Ops, op)
		}
	}
	return c
}

// answered makes a call, and holds what it answers to what holds of all answers.
func answered(t *testing.T, c api.Circuit) (api.Circuit, api.Fault) {
	t.Helper()
	out, f := lower.Base(c)
	if f != none && (out.Qubits != 0 || out.Bits != 0 || len(out.Ops) > 0) {
		t.Errorf("more than the fault %v: %s", f, short(out))
	}
	if g := circ.Check(out); f == none && g != none {
		t.Errorf("a circuit with the fault %v: %s", g, short(out))
	}
	return out, f
}

// Each call is made twice, with the same arguments: it must end, must not panic,
// and must say the same; the arguments must be what they were.
func TestCallsHangOnTheirArgumentsAlone(t *testing.T) {
	for i := range 1000 {
		n := noise(i)
		c := n.circuit(1+n.below(12), n.below(13), n.below(30), 1+n.below(11))
		if i%3 == 0 {
			n.spoil(&c)
		}
		before := copyOf(c)
		first, f := answered(t, c)
		second, g := answered(t, c)
		if !reflect.DeepEqual(first, second) || f != g {
			t.Errorf("two answers: %s, %v and %s, %v", short(first), f, short(second), g)
		}
		if !reflect.DeepEqual(c, before) {
			t.Errorf("changed: %s, was %s", short(c), short(before))
		}
	}
}

func TestZeroValues(t *testing.T) {
	refused(t, "a zero circuit", api.Circuit{}, fault(api.ErrQubits, 0))
	refused(t, "zero operations", api.Circuit{Qubits: 1, Ops: make([]api.Op, 3)}, fault(api.ErrKind, 0))
}

// Operations with odd numbers in all fields at once.
func TestOddCircuits(t *testing.T) {
	odd := []int{math.MinInt64, math.MinInt64 + 1, -1 << 32, -1, 0, 1, 2, 3, 4, 5, 6, 7, 11, 12, 13, 1 << 32, math.MaxInt64 - 1, math.MaxInt64}
	n := noise(3)
	number := func() int { return odd[n.below(len(odd))] }
	list := func() []int {
		out := make([]int, n.below(4))
		for i := range out {
			out[i] = number()
		}
		return out
	}
	for range 30000 {
		c := api.Circuit{Qubits: number(), Bits: number()}
		if n.below(4) > 0 {
			c.Qubits, c.Bits = 12, 12
		}
		for range n.below(3) {
			op := api.Op{Kind: number(), K: number(), Q: number(), Ctl: list(), Bit: number(), If: list()}
			if n.below(2) == 0 {
				op = api.Op{Kind: 2 + n.below(3), Q: number(), Ctl: list(), If: list()}
			}
			c.Ops = append(c.Ops, op)
		}
		_, f := answered(t, c)
		equal(t, short(c), f, wantedFault(c))
	}
}

// Lists of great length are refused in no time.
func TestLongLists(t *testing.T) {
	long := slices.Repeat([]int{1}, 1<<20)
	refused(t, "controls", one(12, 12, api.Op{Kind: api.X, Ctl: long}), fault(api.ErrClone, 0))
	refused(t, "conditions", one(12, 12, api.Op{Kind: api.X, Q: 1, Ctl: []int{0}, If: long}), fault(api.ErrIf, 0))
	refused(t, "operations", api.Circuit{Qubits: 2, Ops: slices.Repeat([]api.Op{{Kind: api.X, Q: 1, Ctl: []int{0}}}, 1<<20)}, fault(api.ErrLong, 0))
}

// lists visits all lists of a circuit's operations, up to the end of their room.
func lists(c api.Circuit, visit func([]int)) {
	for _, op := range c.Ops {
		visit(op.Ctl[:cap(op.Ctl)])
		visit(op.If[:cap(op.If)])
	}
}

// No list of an answer shares memory with another one, of this answer, of another
// or of what was handed in.
func TestAnswersAreNewMemory(t *testing.T) {
	c := everything()
	shared := []int{1, -2, 3}
	for i := range c.Ops {
		c.Ops[i].If = shared[:1+i%3]
	}
	before := copyOf(c)
	first, second := base(t, c), base(t, c)
	want := base(t, copyOf(c))
	seen := map[*int]bool{}
	visit := func(list []int) {
		for i := range list {
			if seen[&list[i]] {
				t.Fatal("two lists share memory")
			}
			seen[&list[i]] = true
		}
	}
	visit(shared)
	for _, op := range c.Ops {
		visit(op.Ctl)
	}
	lists(first, visit)
	lists(second, visit)
	lists(first, func(list []int) {
		for i := range list {
			list[i] = -77
		}
	})
	for i := range first.Ops[:cap(first.Ops)] {
		first.Ops[:cap(first.Ops)][i] = api.Op{Kind: -77}
	}
	equal(t, "another answer", second, want)
	equal(t, "what is answered next", base(t, c), want)
	equal(t, "what was handed in", c, before)
}

// Of what is handed in nothing is kept: writing into it later changes no answer.
func TestArgumentsAreNotKept(t *testing.T) {
	c := everything()
	got, want := base(t, c), base(t, everything())
	lists(c, func(list []int) {
		for i := range list {
			list[i] = -77
		}
	})
	clear(c.Ops)
	equal(t, "kept", got, want)
	basic := circuit(t, "qubits 2 bits 1", "x 0 if 0")
	got = base(t, basic)
	basic.Ops[0].Kind, basic.Ops[0].If[0] = api.H, -1
	equal(t, "kept", got, circuit(t, "qubits 2 bits 1", "x 0 if 0"))
}

// roomy has room behind all lists, and empty lists in place of those that are nil.
func roomy(c api.Circuit) api.Circuit {
	behind := func(list []int) []int {
		return append(slices.Clone(list), -77, -78)[:len(list)]
	}
	ops := make([]api.Op, 0, len(c.Ops)+2)
	for _, op := range c.Ops {
		op.Ctl, op.If = behind(op.Ctl), behind(op.If)
		ops = append(ops, op)
	}
	c.Ops = append(ops, api.Op{Kind: -77}, api.Op{Kind: -78})[:len(c.Ops)]
	return c
}

// Lists may be nil or empty; behind their ends there may be room, which is neither
// read nor written into.
func TestListsMayBeNilOrEmpty(t *testing.T) {
	check := func(list []int) {
		room := list[len(list) : len(list)+2]
		equal(t, "behind a list", room, []int{-77, -78})
	}
	for i := range 600 {
		n := noise(i)
		c := n.circuit(1+n.below(12), n.below(13), n.below(20), 5)
		if i%3 == 0 {
			n.spoil(&c)
		}
		other := roomy(c)
		want, f := answered(t, c)
		got, g := answered(t, other)
		equal(t, "nil or empty", got, want)
		equal(t, "nil or empty", g, f)
		for _, op := range other.Ops {
			check(op.Ctl)
			check(op.If)
		}
		room := other.Ops[len(other.Ops) : len(other.Ops)+2]
		equal(t, "behind the operations", []int{room[0].Kind, room[1].Kind}, []int{-77, -78})
	}
	equal(t, "no operations", base(t, api.Circuit{Qubits: 2, Ops: []api.Op{}}), base(t, api.Circuit{Qubits: 2}))
}

// Calls of one circuit at the same time don't meet.
func TestCallsAtTheSameTime(t *testing.T) {
	c := everything()
	want := base(t, everything())
	var all sync.WaitGroup
	for range 8 {
		all.Go(func() {
			got, f := lower.Base(c)
			if f != none || !reflect.DeepEqual(got, want) {
				t.Errorf("at the same time: %s, %v", short(got), f)
			}
		})
	}
	all.Wait()
}
