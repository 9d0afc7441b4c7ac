package mach_test

import (
	"fmt"
	"math"
	"reflect"
	"slices"
	"strings"
	"sync"
	"testing"

	"qloom/api"
	"qloom/mach"
)

// given is what the calls are given.
type given struct {
	image string
	in    int
	tape  []int
	fuel  int
	text  string
	c     api.Circuit
}

// copyOf has texts and lists of its own.
func (g given) copyOf() given {
	g.image, g.text = strings.Clone(g.image), strings.Clone(g.text)
	g.tape, g.c = slices.Clone(g.tape), copyOf(g.c)
	return g
}

// answers are what all calls say of what they are given.
type answers struct {
	check     api.Fault
	left      api.Run
	run       api.Fault
	written   string
	text      api.Fault
	made      string
	assemble  api.Fault
	ofCircuit string
	emit      api.Fault
}

// asked makes all calls.
func asked(g given) answers {
	var a answers
	a.check = mach.Check(g.image)
	a.left, a.run = mach.Run(g.image, g.in, g.tape, g.fuel)
	a.written, a.text = mach.Text(g.image)
	a.made, a.assemble = mach.Assemble(g.text)
	a.ofCircuit, a.emit = mach.Emit(g.c)
	return a
}

// answered makes all calls, and holds what they answer to what holds of all answers.
func answered(t *testing.T, g given) answers {
	t.Helper()
	a := asked(g)
	if a.run != none && !isEmpty(a.left) {
		t.Errorf("more than the fault %v: %s", a.run, short(a.left))
	}
	if a.text != a.check || (a.text == none) == (a.written == "") {
		t.Errorf("Text: %v, %s, where Check says %v", a.text, short(a.written), a.check)
	}
	for _, one := range []struct {
		image string
		fault api.Fault
	}{{a.made, a.assemble}, {a.ofCircuit, a.emit}} {
		if one.fault != none && one.image != "" {
			t.Errorf("more than the fault %v: %s", one.fault, short(one.image))
		}
		if f := mach.Check(one.image); one.fault == none && f != none {
			t.Errorf("an image with the fault %v: %s", f, short(one.image))
		}
	}
	return a
}

// given is something to be given, at times with odd things in it.
func (n *noise) given() given {
	qubits := 1 + n.below(5)
	g := given{text: n.program(qubits, n.below(13), n.below(20)), tape: n.tape(), fuel: n.below(100), in: n.below(1 << qubits)}
	g.image, _ = wantedImage(g.text)
	g.c = n.circuit(1+n.below(12), n.below(13), n.below(20), 20)
	switch n.below(8) {
	case 0:
		n.spoil(&g.c)
	case 1:
		g.image = n.spoilBytes(g.image)
	case 2:
		g.image = resealed(n.spoilBytes(g.image))
	case 3:
		g.text = n.spoilText(g.text)
	case 4:
		g.in = n.odd()
	case 5:
		g.fuel = n.odd()
	}
	return g
}

// everything has all instructions, and all kinds of operations.
func everything() given {
	return given{image: allImage, in: 5, tape: []int{1, 0, 1, 0, 1, 1, 0}, fuel: 200, text: all, c: api.Circuit{Qubits: 5, Bits: 3, Ops: []api.Op{
		{Kind: api.Phase, K: 3, If: []int{1}}, {Kind: api.Measure, Q: 2, Bit: 1, If: []int{-1}}, {Kind: api.Reset, Q: 4, If: []int{2, 3}},
		{Kind: api.X, Q: 1, If: []int{1}}, {Kind: api.H, Q: 1, If: []int{3}}, {Kind: api.P, K: 5, Q: 1, If: []int{3, -1}},
		{Kind: api.X, Q: 0, Ctl: []int{4}, If: []int{1, -2}}, cx(1, 3),
	}}}
}

// Each call is made twice, with the same arguments: it must end, must not panic, and
// must say the same; the arguments must be what they were.
func TestCallsHangOnTheirArgumentsAlone(t *testing.T) {
	for i := range 4000 {
		n := noise(i)
		g := n.given()
		before := g.copyOf()
		first, second := answered(t, g), answered(t, g)
		if !reflect.DeepEqual(first, second) {
			t.Errorf("two answers: %s and %s", short(first), short(second))
		}
		if fmt.Sprint(g) != fmt.Sprint(before) {
			t.Errorf("changed: %s, was %s", short(g), short(before))
		}
	}
}

func TestZeroValues(t *testing.T) {
	a := answered(t, given{})
	equal(t, "no image", a.check, fault(api.ErrText, 0))
	equal(t, "no image", a.run, fault(api.ErrText, 0))
	equal(t, "no image", a.text, fault(api.ErrText, 0))
	equal(t, "no text", a.assemble, fault(api.ErrText, 0))
	equal(t, "a zero circuit", a.emit, fault(api.ErrQubits, 0))
	a = answered(t, given{image: bare, c: api.Circuit{Qubits: 1, Ops: make([]api.Op, 3)}})
	equal(t, "no fuel, and nothing to do", a.run, none)
	equal(t, "zero operations", a.emit, fault(api.ErrKind, 0))
	a = answered(t, given{image: string(make([]byte, 99))})
	equal(t, "zero bytes", a.check, fault(api.ErrMagic, 0))
}

// bytes are some without order, most of them small.
func (n *noise) bytes(length int) string {
	out := make([]byte, length)
	for i := range out {
		out[i] = byte(n.below(256) >> n.below(8))
	}
	return string(out)
}

// Bytes without order, some behind a right beginning, and odd numbers in all fields.
func TestOddArguments(t *testing.T) {
	signs := "qubits 12\n:halt jump aL0 x h cx\x00\xff\r\t-"
	for i := range 30000 {
		n := noise(i)
		g := given{image: n.bytes(n.below(60)), in: n.odd(), fuel: n.odd(), c: api.Circuit{Qubits: n.odd(), Bits: n.odd()}}
		if n.below(2) == 0 {
			g.image = "QLM1\x0c\x0c\x00" + g.image
		}
		if n.below(2) == 0 {
			g.image = resealed(g.image)
		}
		for range n.below(60) {
			at := n.below(len(signs))
			g.text += signs[at : at+1]
		}
		if n.below(2) == 0 {
			g.text = "qubits 2 bits 2\n" + g.text
		}
		for range n.below(4) {
			g.tape = append(g.tape, n.odd())
			g.c.Ops = append(g.c.Ops, api.Op{Kind: n.odd(), K: n.odd(), Q: n.odd(), Ctl: []int{n.odd()}[n.below(2):], Bit: n.odd(), If: []int{n.odd()}[n.below(2):]})
		}
		if n.below(4) > 0 {
			g.c.Qubits, g.c.Bits = 12, 12
		}
		a := answered(t, g)
		_, _, _, want := decode(g.image)
		equal(t, short(g), a.check, want)
		_, want = wantedImage(g.text)
		equal(t, short(g), a.assemble, want)
		equal(t, short(g), a.emit, emitFault(g.c))
	}
	for _, odd := range []int{math.MinInt64, -1, api.MaxFuel + 1, math.MaxInt64} {
		stopped(t, "an odd input", bare, odd, nil, odd, fault(api.ErrInput, 0))
		stopped(t, "odd fuel", bare, 0, nil, odd, fault(api.ErrRange, 0))
	}
}

// Texts and lists of great length are refused in no time, or not looked at.
func TestLongLists(t *testing.T) {
	long := slices.Repeat([]int{1}, 1<<20)
	ran(t, "a long tape", run(t, image(t, "qubits 1 bits 1", "measure 0 0"), 1, long, 1), []string{"0", "1"}, []int{1}, 1, 1)
	for _, tried := range []struct {
		c    api.Circuit
		want api.Fault
	}{
		{api.Circuit{Qubits: 2, Ops: slices.Repeat([]api.Op{cx(0, 1)}, 1<<20)}, fault(api.ErrLong, 0)},
		{api.Circuit{Qubits: 2, Ops: []api.Op{{Kind: api.X, Ctl: long}}}, fault(api.ErrClone, 0)},
		{api.Circuit{Qubits: 2, Bits: 1, Ops: []api.Op{{Kind: api.X, If: long}}}, fault(api.ErrIf, 0)},
	} {
		if out, f := mach.Emit(tried.c); f != tried.want || out != "" {
			t.Errorf("Emit: %s, %v, want %v", short(out), f, tried.want)
		}
	}
	huge := strings.Repeat("halt\n", 1<<24)
	equal(t, "a huge image", mach.Check(huge), fault(api.ErrLong, 0))
	unassembledLong(t, huge, fault(api.ErrLong, 0))
}

// What is answered is written into: no other answer changes, and nothing that was handed in.
func TestAnswersAreNewMemory(t *testing.T) {
	g := everything()
	before := g.copyOf()
	first, second := answered(t, g), answered(t, g)
	want := answered(t, g.copyOf())
	shot := first.left.Shot
	for _, list := range [][]int{shot.Bits[:cap(shot.Bits)]} {
		for i := range list {
			list[i] = -77
		}
	}
	for i := range shot.Amps[:cap(shot.Amps)] {
		shot.Amps[:cap(shot.Amps)][i] = "written over"
	}
	equal(t, "another answer", second, want)
	equal(t, "what is answered next", answered(t, g), want)
	equal(t, "what was handed in", g, before)
}

// Of what is handed in nothing is kept: writing into it later changes no answer.
func TestArgumentsAreNotKept(t *testing.T) {
	g := everything()
	got, want := answered(t, g), answered(t, everything())
	for _, op := range g.c.Ops {
		for _, list := range [][]int{op.Ctl, op.If} {
			for i := range list {
				list[i] = -77
			}
		}
	}
	clear(g.c.Ops)
	for i := range g.tape {
		g.tape[i] = -77
	}
	equal(t, "kept", got, want)
}

// roomy has room behind all lists, and empty lists in place of those that are nil.
func (g given) roomy() given {
	behind := func(list []int) []int {
		return append(slices.Clone(list), -77, -78)[:len(list)]
	}
	ops := make([]api.Op, 0, len(g.c.Ops)+2)
	for _, op := range g.c.Ops {
		op.Ctl, op.If = behind(op.Ctl), behind(op.If)
		ops = append(ops, op)
	}
	g.c.Ops = append(ops, api.Op{Kind: -77}, api.Op{Kind: -78})[:len(g.c.Ops)]
	g.tape = behind(g.tape)
	return g
}

// Lists may be nil or empty; behind their ends there may be room, which is neither read
// nor written into.
func TestListsMayBeNilOrEmpty(t *testing.T) {
	check := func(list []int) {
		room := list[len(list) : len(list)+2]
		equal(t, "behind a list", room, []int{-77, -78})
	}
	for i := range 600 {
		n := noise(i)
		g := n.given()
		other := g.roomy()
		equal(t, "nil or empty", answered(t, other), answered(t, g))
		check(other.tape)
		for _, op := range other.c.Ops {
			check(op.Ctl)
			check(op.If)
		}
		room := other.c.Ops[len(other.c.Ops) : len(other.c.Ops)+2]
		equal(t, "behind the operations", []int{room[0].Kind, room[1].Kind}, []int{-77, -78})
	}
	without := given{image: bare, text: "qubits 1 bits 0\n", c: api.Circuit{Qubits: 1}}
	empty := given{image: bare, text: "qubits 1 bits 0\n", tape: []int{}, c: api.Circuit{Qubits: 1, Ops: []api.Op{}}}
	equal(t, "empty", answered(t, empty), answered(t, without))
}

// Calls of the same arguments at the same time don't meet.
func TestCallsAtTheSameTime(t *testing.T) {
	g := everything()
	want := fmt.Sprint(asked(everything()))
	var calls sync.WaitGroup
	for range 8 {
		calls.Go(func() {
			if got := fmt.Sprint(asked(g)); got != want {
				t.Errorf("at the same time: %s", short(got))
			}
		})
	}
	calls.Wait()
}
