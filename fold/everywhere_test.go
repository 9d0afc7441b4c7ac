package fold_test

import (
	"math"
	"reflect"
	"slices"
	"sync"
	"testing"

	"qloom/api"
	"qloom/circ"
	"qloom/fold"
)

// everything is a circuit with all kinds of gates, some of which come again.
func everything() api.Circuit {
	c := api.Circuit{Qubits: 5, Bits: 3}
	for _, controls := range []int{0, 1, 3, 4} {
		for kind := api.X; kind <= api.P; kind++ {
			op := api.Op{Kind: kind, Q: controls, Ctl: span(controls)}
			if kind == api.P {
				op.K = 1 + controls
			}
			c.Ops = append(c.Ops, op, api.Op{Kind: api.P, K: 3, Q: 2}, api.Op{Kind: api.X, Q: 2}, api.Op{Kind: api.Phase, K: kind})
		}
	}
	return c
}

// answered makes a call, and holds what it answers to what holds of all answers.
func answered(t *testing.T, c api.Circuit) (api.Circuit, api.Fault) {
	t.Helper()
	out, f := fold.Slim(c)
	if f != none && (out.Qubits != 0 || out.Bits != 0 || len(out.Ops) > 0) {
		t.Errorf("more than the fault %v: %s", f, short(out))
	}
	if g := circ.Pure(out); f == none && g != none {
		t.Errorf("a circuit with the fault %v: %s", g, short(out))
	}
	return out, f
}

// Each call is made twice, with the same arguments: it must end, must not panic,
// and must say the same; the arguments must be what they were.
func TestCallsHangOnTheirArgumentsAlone(t *testing.T) {
	for i := range 2000 {
		n := noise(i)
		c := n.circuit(1+n.below(12), n.below(60), n.below(5))
		if i%3 == 0 {
			n.spoil(&c)
		}
		before := copyOf(c)
		first, f := answered(t, c)
		second, g := answered(t, c)
		if !reflect.DeepEqual(first, second) || f != g {
			t.Errorf("two answers: %s, %v and %s, %v", short(first), f, short(second), g)
		}
		if !reflect.DeepEqual(c, before) {
			t.Errorf("changed: %s, was %s", short(c), short(before))
		}
	}
}

// What is answered does not hang on the order in which a map is gone through: of great
// circuits, too, all times are the same.
func TestAnswersAreTheSameEachTime(t *testing.T) {
	for i := range 4 {
		n := noise(i)
		c := n.plain(6, 1500, i)
		want := slim(t, c)
		for range 10 {
			if got := slim(t, c); !reflect.DeepEqual(got, want) {
				t.Fatalf("another time: %s, want %s", short(got), short(want))
			}
		}
	}
}

func TestZeroValues(t *testing.T) {
	refused(t, "a zero circuit", api.Circuit{}, fault(api.ErrQubits, 0))
	refused(t, "zero operations", api.Circuit{Qubits: 1, Ops: make([]api.Op, 3)}, fault(api.ErrKind, 0))
}

// Operations with odd numbers in all fields at once.
func TestOddCircuits(t *testing.T) {
	odd := []int{math.MinInt64, math.MinInt64 + 1, -1 << 32, -1, 0, 1, 2, 3, 4, 5, 6, 7, 11, 12, 13, 1 << 32, math.MaxInt64 - 1, math.MaxInt64}
	n := noise(3)
	number := func() int { return odd[n.below(len(odd))] }
	list := func() []int {
		out := make([]int, n.below(4))
		for i := range out {
			out[i] = number()
		}
		return out
	}
	for range 30000 {
		c := api.Circuit{Qubits: number(), Bits: number()}
		if n.below(4) > 0 {
			c.Qubits, c.Bits = 12, 12
		}
		for range n.below(3) {
			op := api.Op{Kind: number(), K: number(), Q: number(), Ctl: list(), Bit: number(), If: list()}
			if n.below(2) == 0 {
				op = api.Op{Kind: 2 + n.below(3), Q: number(), Ctl: list()}
			}
			c.Ops = append(c.Ops, op)
		}
		_, f := answered(t, c)
		equal(t, short(c), f, circ.Pure(c))
	}
}

// Lists of great length are refused in no time.
func TestLongLists(t *testing.T) {
	long := slices.Repeat([]int{1}, 1<<20)
	refused(t, "controls", api.Circuit{Qubits: 12, Ops: []api.Op{{Kind: api.X, Ctl: long}}}, fault(api.ErrClone, 0))
	refused(t, "conditions", api.Circuit{Qubits: 12, Bits: 12, Ops: []api.Op{{Kind: api.X, If: long}}}, fault(api.ErrIf, 0))
	refused(t, "operations", api.Circuit{Qubits: 2, Ops: slices.Repeat([]api.Op{{Kind: api.X}}, 1<<20)}, fault(api.ErrLong, 0))
}

// lists visits all lists of a circuit's operations, up to the end of their room.
func lists(c api.Circuit, visit func([]int)) {
	for _, op := range c.Ops {
		visit(op.Ctl[:cap(op.Ctl)])
		visit(op.If[:cap(op.If)])
	}
}

// No list of an answer shares memory with another one, of this answer, of another
// or of what was handed in.
func TestAnswersAreNewMemory(t *testing.T) {
	c := everything()
	shared := span(4)
	for i, op := range c.Ops {
		c.Ops[i].Ctl = shared[:len(op.Ctl)]
	}
	before := copyOf(c)
	first, second := slim(t, c), slim(t, c)
	want := slim(t, copyOf(c))
	seen := map[*int]bool{}
	visit := func(list []int) {
		for i := range list {
			if seen[&list[i]] {
				t.Fatal("two lists share memory")
			}
			seen[&list[i]] = true
		}
	}
	visit(shared)
	lists(first, visit)
	lists(second, visit)
	equal(t, "there are lists", len(seen) > 20, true)
	lists(first, func(list []int) {
		for i := range list {
			list[i] = -77
		}
	})
	for i := range first.Ops[:cap(first.Ops)] {
		first.Ops[:cap(first.Ops)][i] = api.Op{Kind: -77}
	}
	equal(t, "another answer", second, want)
	equal(t, "what is answered next", slim(t, c), want)
	equal(t, "what was handed in", c, before)
}

// So it is of circuits of which all is left, and of those of which nothing is.
func TestNothingIsShared(t *testing.T) {
	for _, c := range []api.Circuit{
		circuit(t, "qubits 3 bits 1", "h 0", "x 1 on 0", "p 3 1", "p 5 0 on 2 1", "x 0 on 2 1"),
		circuit(t, "qubits 3 bits 0", "p 5 0 on 2 1", "p 11 2 on 1 0"),
		{Qubits: 3},
	} {
		before := copyOf(c)
		got := slim(t, c)
		for i := range got.Ops {
			got.Ops[i].Kind = -77
			for j := range got.Ops[i].Ctl {
				got.Ops[i].Ctl[j] = -77
			}
			got.Ops[i].Ctl = append(got.Ops[i].Ctl, -77)
		}
		got.Ops = append(got.Ops, api.Op{Kind: -77})
		equal(t, "what was handed in", c, before)
	}
}

// Of what is handed in nothing is kept: writing into it later changes no answer.
func TestArgumentsAreNotKept(t *testing.T) {
	c := everything()
	got, want := slim(t, c), slim(t, everything())
	lists(c, func(list []int) {
		for i := range list {
			list[i] = -77
		}
	})
	clear(c.Ops)
	equal(t, "kept", got, want)
}

// roomy has room behind all lists, and empty lists in place of those that are nil.
func roomy(c api.Circuit) api.Circuit {
	behind := func(list []int) []int {
		return append(slices.Clone(list), -77, -78)[:len(list)]
	}
	ops := make([]api.Op, 0, len(c.Ops)+2)
	for _, op := range c.Ops {
		op.Ctl, op.If = behind(op.Ctl), behind(op.If)
		ops = append(ops, op)
	}
	c.Ops = append(ops, api.Op{Kind: -77}, api.Op{Kind: -78})[:len(c.Ops)]
	return c
}

// Lists may be nil or empty; behind their ends there may be room, which is neither
// read nor written into.
func TestListsMayBeNilOrEmpty(t *testing.T) {
	check := func(list []int) {
		room := list[len(list) : len(list)+2]
		equal(t, "behind a list", room, []int{-77, -78})
	}
	for i := range 600 {
		n := noise(i)
		c := n.circuit(1+n.below(12), n.below(40), n.below(4))
		if i%3 == 0 {
			n.spoil(&c)
		}
		other := roomy(c)
		want, f := answered(t, c)
		got, g := answered(t, other)
		equal(t, "nil or empty", got, want)
		equal(t, "nil or empty", g, f)
		for _, op := range other.Ops {
			check(op.Ctl)
			check(op.If)
		}
		room := other.Ops[len(other.Ops) : len(other.Ops)+2]
		equal(t, "behind the operations", []int{room[0].Kind, room[1].Kind}, []int{-77, -78})
	}
	equal(t, "no operations", slim(t, api.Circuit{Qubits: 2, Ops: []api.Op{}}), slim(t, api.Circuit{Qubits: 2}))
}

// Calls of one circuit at the same time don't meet.
func TestCallsAtTheSameTime(t *testing.T) {
	c := everything()
	want := slim(t, everything())
	var all sync.WaitGroup
	for range 8 {
		all.Go(func() {
			got, f := fold.Slim(c)
			if f != none || !reflect.DeepEqual(got, want) {
				t.Errorf("at the same time: %s, %v", short(got), f)
			}
		})
	}
	all.Wait()
}
