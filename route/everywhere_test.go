package route_test

import (
	"fmt"
	"reflect"
	"slices"
	"sync"
	"testing"

	"qloom/api"
	"qloom/circ"
	"qloom/route"
)

// given is what the calls are given.
type given struct {
	c     api.Circuit
	d     api.Device
	times api.Times
}

// copyOf has lists of its own.
func (g given) copyOf() given {
	return given{copyOf(g.c), api.Device{N: g.d.N, Links: slices.Clone(g.d.Links)}, g.times}
}

// answers are what all calls say of what they are given.
type answers struct {
	device  api.Fault
	fitted  api.Routed
	fit     api.Fault
	begins  []int
	end     int
	lasting api.Fault
}

// asked makes all calls.
func asked(g given) answers {
	var a answers
	a.device = route.Check(g.d)
	a.fitted, a.fit = route.Fit(g.c, g.d)
	a.begins, a.end, a.lasting = route.Schedule(g.c, g.times)
	return a
}

// answered makes all calls, and holds what they answer to what holds of all answers.
func answered(t *testing.T, g given) answers {
	t.Helper()
	a := asked(g)
	if a.fit != none && !isEmpty(a.fitted) {
		t.Errorf("more than the fault %v: %s", a.fit, short(a.fitted))
	}
	if f := circ.Check(a.fitted.Circuit); a.fit == none && f != none {
		t.Errorf("a circuit with the fault %v: %s", f, short(a.fitted))
	}
	if a.lasting != none && (len(a.begins) > 0 || a.end != 0) {
		t.Errorf("more than the fault %v: %s, %d", a.lasting, short(a.begins), a.end)
	}
	return a
}

// given is something to be given, at times with odd things in it.
func (n *noise) given() given {
	g := given{d: n.device(1 + n.below(12))}
	g.c = n.circuit(1+n.below(g.d.N), n.below(13), n.below(30))
	g.times = api.Times{One: n.below(9), Two: n.below(99), Turn: n.below(3), Look: n.below(1000001)}
	switch n.below(6) {
	case 0:
		n.spoil(&g.c)
	case 1:
		n.spoilDevice(&g.d)
	case 2:
		*[]*int{&g.times.One, &g.times.Two, &g.times.Turn, &g.times.Look}[n.below(4)] = n.odd()
	}
	return g
}

// everything has all kinds of operations, far from each other on its device.
func everything() given {
	c := api.Circuit{Qubits: 5, Bits: 3, Ops: []api.Op{
		{Kind: api.Phase, K: 3, If: []int{1}}, {Kind: api.Measure, Q: 2, Bit: 1, If: []int{-1}}, {Kind: api.Reset, Q: 4, If: []int{2, 3}},
		{Kind: api.X, Q: 1, If: []int{1}}, {Kind: api.H, Q: 1, If: []int{3}}, {Kind: api.P, K: 5, Q: 1, If: []int{3, -1}},
		{Kind: api.X, Q: 0, Ctl: []int{4}, If: []int{1, -2}}, cx(1, 3), cx(4, 2), cx(0, 1), {Kind: api.H}, {Kind: api.X, Q: 3, Ctl: []int{0}, If: []int{-3}},
	}}
	return given{c, row(6), unlike}
}

// Each call is made twice, with the same arguments: it must end, must not panic, and
// must say the same; the arguments must be what they were.
func TestCallsHangOnTheirArgumentsAlone(t *testing.T) {
	for i := range 3000 {
		n := noise(i)
		g := n.given()
		before := g.copyOf()
		first, second := answered(t, g), answered(t, g)
		if !reflect.DeepEqual(first, second) {
			t.Errorf("two answers: %s and %s", short(first), short(second))
		}
		if fmt.Sprint(g) != fmt.Sprint(before) {
			t.Errorf("changed: %s, was %s", short(g), short(before))
		}
	}
}

func TestZeroValues(t *testing.T) {
	a := answered(t, given{})
	equal(t, "a zero device", a.device, fault(api.ErrQubits, 0))
	equal(t, "a zero circuit", a.fit, fault(api.ErrQubits, 0))
	equal(t, "a zero circuit", a.lasting, fault(api.ErrQubits, 0))
	a = answered(t, given{c: api.Circuit{Qubits: 1, Ops: make([]api.Op, 3)}})
	equal(t, "zero operations", a.fit, fault(api.ErrKind, 0))
	equal(t, "zero operations", a.lasting, fault(api.ErrKind, 0))
	a = answered(t, given{c: api.Circuit{Qubits: 1}})
	equal(t, "a zero device", a.fit, fault(api.ErrQubits, 0))
	equal(t, "zero times", a.lasting, none)
	a = answered(t, given{c: api.Circuit{Qubits: 1}, d: api.Device{N: 3, Links: make([][2]int, 3)}})
	equal(t, "zero links", a.fit, fault(api.ErrClone, 0))
}

// Odd numbers in all fields at once.
func TestOddArguments(t *testing.T) {
	n := noise(3)
	list := func() []int {
		out := make([]int, n.below(4))
		for i := range out {
			out[i] = n.odd()
		}
		return out
	}
	for range 30000 {
		g := given{c: api.Circuit{Qubits: n.odd(), Bits: n.odd()}, d: api.Device{N: n.odd()}}
		if n.below(4) > 0 {
			g.c.Qubits, g.c.Bits = 12, 12
		}
		if n.below(4) > 0 {
			g.d = row(12)
		}
		for range n.below(3) {
			op := api.Op{Kind: n.odd(), K: n.odd(), Q: n.odd(), Ctl: list(), Bit: n.odd(), If: list()}
			if n.below(2) == 0 {
				op = api.Op{Kind: 2 + n.below(3), Q: n.odd(), Ctl: list()}
			}
			g.c.Ops = append(g.c.Ops, op)
		}
		for range n.below(4) {
			g.d.Links = append(g.d.Links, [2]int{n.odd(), n.odd()})
		}
		g.times = api.Times{One: n.odd(), Two: n.below(9), Turn: n.odd(), Look: n.below(9)}
		a := answered(t, g)
		equal(t, short(g), a.device, deviceFault(g.d))
		equal(t, short(g), a.fit, fitFault(g.c, g.d))
		equal(t, short(g), a.lasting, timesFault(g.c, g.times))
	}
}

// Lists of great length are refused in no time.
func TestLongLists(t *testing.T) {
	long := slices.Repeat([]int{1}, 1<<20)
	ops := slices.Repeat([]api.Op{cx(0, 1)}, 1<<20)
	for _, tried := range []struct {
		c    api.Circuit
		want api.Fault
	}{
		{api.Circuit{Qubits: 2, Ops: ops}, fault(api.ErrLong, 0)},
		{api.Circuit{Qubits: 2, Ops: []api.Op{{Kind: api.X, Ctl: long}}}, fault(api.ErrClone, 0)},
		{api.Circuit{Qubits: 2, Bits: 1, Ops: []api.Op{{Kind: api.X, If: long}}}, fault(api.ErrIf, 0)},
	} {
		if _, f := route.Fit(tried.c, row(2)); f != tried.want {
			t.Errorf("Fit: %v, want %v", f, tried.want)
		}
		if _, _, f := route.Schedule(tried.c, unlike); f != tried.want {
			t.Errorf("Schedule: %v, want %v", f, tried.want)
		}
	}
	links := slices.Repeat([][2]int{{0, 1}}, 1<<20)
	equal(t, "links", route.Check(api.Device{N: 12, Links: links}), fault(api.ErrTwice, 1))
	d := full(12)
	d.Links = append(d.Links, links...)
	equal(t, "all links and more", route.Check(d), fault(api.ErrTwice, 66))
}

// lists visits all lists of an answer, up to the end of their room.
func lists(a answers, visit func([]int)) {
	visit(a.fitted.Start[:cap(a.fitted.Start)])
	visit(a.fitted.End[:cap(a.fitted.End)])
	visit(a.begins[:cap(a.begins)])
	for _, op := range a.fitted.Circuit.Ops {
		visit(op.Ctl[:cap(op.Ctl)])
		visit(op.If[:cap(op.If)])
	}
}

// No list of an answer shares memory with another one, of this answer, of another or
// of what was handed in.
func TestAnswersAreNewMemory(t *testing.T) {
	g := everything()
	shared := []int{1, -2, 3}
	for i := range g.c.Ops {
		g.c.Ops[i].If = shared[:i%4]
	}
	before := g.copyOf()
	first, second := answered(t, g), answered(t, g)
	want := answered(t, g.copyOf())
	seen := map[*int]bool{}
	visit := func(list []int) {
		for i := range list {
			if seen[&list[i]] {
				t.Fatal("two lists share memory")
			}
			seen[&list[i]] = true
		}
	}
	visit(shared)
	for _, op := range g.c.Ops {
		visit(op.Ctl)
	}
	lists(first, visit)
	lists(second, visit)
	lists(first, func(list []int) {
		for i := range list {
			list[i] = -77
		}
	})
	ops := first.fitted.Circuit.Ops
	for i := range ops[:cap(ops)] {
		ops[:cap(ops)][i] = api.Op{Kind: -77}
	}
	equal(t, "another answer", second, want)
	equal(t, "what is answered next", answered(t, g), want)
	equal(t, "what was handed in", g, before)
}

// Where no operation has a control, the circuit on the device is no less a new one.
func TestAnswersAreNewMemoryWithoutControls(t *testing.T) {
	g := given{c: circuit(t, "qubits 2 bits 1", "x 0 if 0", "measure 1 to 0"), d: row(2)}
	out := fit(t, g.c, g.d)
	out.Circuit.Ops[0].Kind, out.Circuit.Ops[0].If[0] = api.H, -1
	out.Start[0] = -77
	equal(t, "End", out.End, span(2))
	equal(t, "what was handed in", g.c, circuit(t, "qubits 2 bits 1", "x 0 if 0", "measure 1 to 0"))
}

// Of what is handed in nothing is kept: writing into it later changes no answer.
func TestArgumentsAreNotKept(t *testing.T) {
	g := everything()
	got, want := answered(t, g), answered(t, everything())
	for _, op := range g.c.Ops {
		for _, list := range [][]int{op.Ctl, op.If} {
			for i := range list {
				list[i] = -77
			}
		}
	}
	clear(g.c.Ops)
	clear(g.d.Links)
	equal(t, "kept", got, want)
}

// roomy has room behind all lists, and empty lists in place of those that are nil.
func (g given) roomy() given {
	behind := func(list []int) []int {
		return append(slices.Clone(list), -77, -78)[:len(list)]
	}
	ops := make([]api.Op, 0, len(g.c.Ops)+2)
	for _, op := range g.c.Ops {
		op.Ctl, op.If = behind(op.Ctl), behind(op.If)
		ops = append(ops, op)
	}
	g.c.Ops = append(ops, api.Op{Kind: -77}, api.Op{Kind: -78})[:len(g.c.Ops)]
	g.d.Links = append(slices.Clone(g.d.Links), [2]int{-77, -78})[:len(g.d.Links)]
	return g
}

// Lists may be nil or empty; behind their ends there may be room, which is neither read
// nor written into.
func TestListsMayBeNilOrEmpty(t *testing.T) {
	check := func(list []int) {
		room := list[len(list) : len(list)+2]
		equal(t, "behind a list", room, []int{-77, -78})
	}
	for i := range 600 {
		n := noise(i)
		g := n.given()
		other := g.roomy()
		equal(t, "nil or empty", answered(t, other), answered(t, g))
		for _, op := range other.c.Ops {
			check(op.Ctl)
			check(op.If)
		}
		room := other.c.Ops[len(other.c.Ops) : len(other.c.Ops)+2]
		equal(t, "behind the operations", []int{room[0].Kind, room[1].Kind}, []int{-77, -78})
		equal(t, "behind the links", other.d.Links[:len(g.d.Links)+1][len(g.d.Links)], [2]int{-77, -78})
	}
	bare := given{c: api.Circuit{Qubits: 1}, d: api.Device{N: 1}}
	empty := given{c: api.Circuit{Qubits: 1, Ops: []api.Op{}}, d: api.Device{N: 1, Links: [][2]int{}}}
	equal(t, "empty", answered(t, empty), answered(t, bare))
}

// Calls of the same arguments at the same time don't meet.
func TestCallsAtTheSameTime(t *testing.T) {
	g := everything()
	want := fmt.Sprint(asked(everything()))
	var all sync.WaitGroup
	for range 8 {
		all.Go(func() {
			if got := fmt.Sprint(asked(g)); got != want {
				t.Errorf("at the same time: %s", short(got))
			}
		})
	}
	all.Wait()
}
