package loom_test

import (
	"fmt"
	"math"
	"reflect"
	"slices"
	"strings"
	"sync"
	"testing"

	"qloom/api"
	"qloom/loom"
	"qloom/mach"
)

// given is what the calls are given.
type given struct {
	a, b string
	d    api.Device
	name string
	n    int
}

// copyOf has texts and lists of its own.
func (g given) copyOf() given {
	g.a, g.b, g.name = strings.Clone(g.a), strings.Clone(g.b), strings.Clone(g.name)
	g.d.Links = slices.Clone(g.d.Links)
	return g
}

// answers are what all calls say of what they are given.
type answers struct {
	made  built
	build api.Fault
	yes   bool
	same  api.Fault
	text  string
	lib   api.Fault
}

// asked makes all calls.
func asked(g given) answers {
	var a answers
	a.made.image, a.made.start, a.made.end, a.build = loom.Build(g.a, g.d)
	a.yes, a.same = loom.Same(g.a, g.b)
	a.text, a.lib = loom.Lib(g.name, g.n)
	return a
}

// answered makes all calls, and holds what they answer to what holds of all answers.
func answered(t *testing.T, g given) answers {
	t.Helper()
	a := asked(g)
	if a.build != none && (a.made.image != "" || len(a.made.start)+len(a.made.end) > 0) {
		t.Errorf("more than the fault %v: %v", a.build, a.made)
	}
	if f := mach.Check(a.made.image); a.build == none && f != none {
		t.Errorf("an image with the fault %v: %s", f, short(a.made.image))
	}
	if a.same != none && a.yes || a.lib != none && a.text != "" {
		t.Errorf("more than the faults %v, %v: %v, %s", a.same, a.lib, a.yes, short(a.text))
	}
	return a
}

// spoiltText is a text with something else somewhere in it.
func (n *noise) spoiltText(text string) string {
	at := n.below(len(text) + 1)
	behind := text[min(at+1+n.below(3), len(text)):]
	return text[:at] + n.pick("", "", "x", "q[0]", "9", ";", " { ", "}", "ctrl @", "\x00", "\xff", "-", "b") + behind
}

// spoiltDevice is a device with an odd number in it, or a link more or less.
func (n *noise) spoiltDevice(d api.Device) api.Device {
	d.Links = slices.Clone(d.Links)
	if len(d.Links) == 0 || n.below(4) == 0 {
		d.N = n.odd()
		return d
	}
	at := n.below(len(d.Links))
	switch n.below(3) {
	case 0:
		d.Links[at][n.below(2)] = n.odd()
	case 1:
		d.Links = append(d.Links, d.Links[at])
	case 2:
		d.Links = slices.Delete(d.Links, at, at+1)
	}
	return d
}

// given is something to be given, at times with odd things in it.
func (n *noise) given() given {
	a := author{noise: *n, qubits: 1 + n.below(5), bits: n.below(3), wide: n.below(8)}
	b := a
	if n.below(2) == 0 {
		b.noise++
	}
	count := n.below(9)
	g := given{a: a.program(count), b: b.program(count), d: n.device(1 + n.below(10))}
	g.name, g.n = n.pick("add", "qft", "find", "send", "sub", ""), n.below(17)
	switch n.below(6) {
	case 0:
		g.a = n.spoiltText(g.a)
	case 1:
		g.b = n.spoiltText(g.b)
	case 2:
		g.d = n.spoiltDevice(g.d)
	case 3:
		g.name, g.n = n.spoiltText(g.name), n.odd()
	}
	return g
}

// Each call is made twice, with the same arguments: it must end, must not panic, and
// must say the same; the arguments must be what they were.
func TestCallsHangOnTheirArgumentsAlone(t *testing.T) {
	t.Parallel()
	for i := range 1000 {
		n := noise(i)
		g := n.given()
		before := g.copyOf()
		first, second := answered(t, g), answered(t, g)
		if !reflect.DeepEqual(first, second) {
			t.Errorf("two answers: %s and %s", short(first), short(second))
		}
		equal(t, "what was handed in", g, before)
	}
}

func TestZeroValues(t *testing.T) {
	a := answered(t, given{})
	equal(t, "no text", a.build, fault(api.ErrQubits, 0))
	equal(t, "no texts", a.same, fault(api.ErrQubits, 0))
	equal(t, "no name", a.lib, fault(api.ErrName, 0))
	a = answered(t, given{a: "qubit q[1];", b: "qubit q[1];"})
	equal(t, "no device", a.build, fault(api.ErrQubits, 0))
	equal(t, "nothing to do", a.yes, true)
}

// Bytes without order, some in the place of those of a program, and odd numbers in all fields.
func TestOddArguments(t *testing.T) {
	t.Parallel()
	for i := range 4000 {
		n := noise(i)
		g := n.given()
		for range n.below(4) {
			g.a, g.b = n.spoiltText(g.a), n.spoiltText(g.b)
			g.name, g.n = n.spoiltText(g.name), n.odd()
		}
		for range n.below(3) {
			g.d = n.spoiltDevice(g.d)
		}
		if n.below(8) == 0 {
			g.d = api.Device{N: n.odd(), Links: [][2]int{{n.odd(), n.odd()}, {n.odd(), n.odd()}}}
		}
		answered(t, g)
	}
	for _, odd := range []int{math.MinInt64, -1, 0, 13, math.MaxInt64} {
		unbuilt(t, "an odd device", pair, api.Device{N: odd, Links: row(2).Links}, fault(api.ErrQubits, 0))
	}
}

// Texts that are long or nested, and lists of great length, are done with in no time.
func TestGreatArguments(t *testing.T) {
	long := strings.Repeat("x q[0]; ", 1<<20)
	nestedDeep := "qubit q[1]; const k = " + strings.Repeat("(", 19000) + "1" + strings.Repeat(")", 19000) + ";"
	links := api.Device{N: 2, Links: slices.Repeat([][2]int{{0, 1}}, 1<<20)}
	unbuilt(t, "a long text", long, row(2), fault(api.ErrLong, 0))
	uncompared(t, long, long, fault(api.ErrLong, 0))
	build(t, nestedDeep, row(2))
	compared(t, nestedDeep, "qubit q[1];", true)
	unbuilt(t, "a long list", pair, links, fault(api.ErrTwice, 1))
	a := answered(t, given{name: long, n: 1})
	equal(t, "a long name", a.lib, fault(api.ErrName, 0))
}

// The longest programs that can be compared.
func TestSameOfLongPrograms(t *testing.T) {
	t.Parallel()
	n := noise(4)
	var out strings.Builder
	out.WriteString("qubit q[6]; ")
	for range 740 {
		order := n.order(6)
		switch n.below(3) {
		case 0:
			fmt.Fprintf(&out, "h q[%d];", order[0])
		case 1:
			fmt.Fprintf(&out, "p(%d) q[%d];", 1+2*n.below(8), order[0])
		case 2:
			fmt.Fprintf(&out, "ctrl @ h q[%d], q[%d];", order[0], order[1])
		}
	}
	text := out.String()
	compared(t, text, text+" pow(16) @ p(1) q[0];", true)
	compared(t, text, text+" phase(8);", false)
}

// What is answered is written into: no other answer changes, no two lists of one
// answer are one, and nothing that was handed in changes.
func TestAnswersAreNewMemory(t *testing.T) {
	g := given{a: "qubit q[3]; ctrl @ x q[0], q[2]; h q[1];", b: "qubit q[3];", d: row(4), name: "add", n: 2}
	before := g.copyOf()
	first, second := answered(t, g), answered(t, g)
	want := answered(t, g.copyOf())
	start := first.made.start[:cap(first.made.start)]
	for i := range start {
		start[i] = -77
	}
	equal(t, "the other list", first.made.end, want.made.end)
	end := first.made.end[:cap(first.made.end)]
	for i := range end {
		end[i] = -78
	}
	equal(t, "the first list", slices.Max(start), -77)
	equal(t, "another answer", second, want)
	equal(t, "what is answered next", answered(t, g), want)
	equal(t, "what was handed in", g, before)
}

// Of what is handed in nothing is kept, and behind a list's end nothing is read or written.
func TestListsThatAreHandedIn(t *testing.T) {
	g := given{a: pair, b: pair, d: row(4)}
	want := answered(t, g.copyOf())
	roomy := append(slices.Clone(g.d.Links), [2]int{-77, -77})
	g.d.Links = roomy[:len(roomy)-1]
	got := answered(t, g)
	equal(t, "room behind the links", got, want)
	equal(t, "behind the links", roomy[len(roomy)-1], [2]int{-77, -77})
	clear(roomy)
	equal(t, "kept", got, want)
	alone := "qubit q[1]; h q[0];"
	equal(t, "nil or empty", build(t, alone, api.Device{N: 1, Links: [][2]int{}}), build(t, alone, api.Device{N: 1}))
}

// Calls of the same arguments at the same time don't meet.
func TestCallsAtTheSameTime(t *testing.T) {
	g := given{a: "qubit q[3]; ctrl @ x q[0], q[2]; h q[1];", b: "qubit q[3]; h q[1]; ctrl @ x q[0], q[2];", d: row(4), name: "qft", n: 4}
	want := fmt.Sprint(asked(g))
	var calls sync.WaitGroup
	for range 8 {
		calls.Go(func() {
			if got := fmt.Sprint(asked(g)); got != want {
				t.Errorf("at the same time: %s", short(got))
			}
		})
	}
	calls.Wait()
}
