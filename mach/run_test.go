package mach_test

import (
	"fmt"
	"math"
	"slices"
	"strings"
	"testing"

	"qloom/api"
	"qloom/mach"
	"qloom/ring"
)

// half is one over the root of two, less is that below 0.
const (
	half = "0,0,1,0,0,0,-1/1"
	less = "0,0,-1,0,0,0,1/1"
)

// ran holds a run to what is told of it: amplitudes, bits, outcomes, instructions.
func ran(t *testing.T, what string, got api.Run, amps []string, bits []int, used, steps int) {
	t.Helper()
	equal(t, what, got, api.Run{Shot: api.Shot{Amps: amps, Bits: bits, Used: used}, Steps: steps})
}

// Each instruction alone.
func TestRunOfEachInstruction(t *testing.T) {
	for _, tried := range []struct {
		head, line string
		in         int
		tape       []int
		amps       string
		bits       []int
		used       int
	}{
		{"qubits 1 bits 0", "halt", 0, nil, "1 0", nil, 0},
		{"qubits 1 bits 0", "phase 3", 1, nil, "0 0,0,0,1", nil, 0},
		{"qubits 1 bits 0", "phase 0", 0, nil, "1 0", nil, 0},
		{"qubits 1 bits 0", "phase 15", 0, nil, "0,0,0,0,0,0,0,-1 0", nil, 0},
		{"qubits 2 bits 0", "x 1", 1, nil, "0 0 0 1", nil, 0},
		{"qubits 2 bits 0", "x 0", 2, nil, "0 0 0 1", nil, 0},
		{"qubits 1 bits 0", "h 0", 1, nil, half + " " + less, nil, 0},
		{"qubits 2 bits 0", "h 1", 1, nil, "0 " + half + " 0 " + half, nil, 0},
		{"qubits 2 bits 0", "p 5 1", 2, nil, "0 0 0,0,0,0,0,1 0", nil, 0},
		{"qubits 2 bits 0", "p 5 0", 2, nil, "0 0 1 0", nil, 0},
		{"qubits 2 bits 0", "cx 0 1", 1, nil, "0 0 0 1", nil, 0},
		{"qubits 2 bits 0", "cx 0 1", 2, nil, "0 0 1 0", nil, 0},
		{"qubits 2 bits 0", "cx 1 0", 2, nil, "0 0 0 1", nil, 0},
		{"qubits 2 bits 0", "cx 1 0", 1, nil, "0 1 0 0", nil, 0},
		{"qubits 2 bits 2", "measure 1 0", 2, []int{1}, "0 0 1 0", []int{1, 0}, 1},
		{"qubits 2 bits 2", "measure 0 1", 2, []int{0}, "0 0 1 0", []int{0, 0}, 1},
		{"qubits 2 bits 2", "measure 0 1", 1, []int{1}, "0 1 0 0", []int{0, 1}, 1},
		{"qubits 2 bits 2", "measure 0 1", 2, []int{1}, "0 0 0 0", []int{0, 1}, 1},
		{"qubits 2 bits 1", "reset 1", 3, []int{1}, "0 1 0 0", []int{0}, 1},
		{"qubits 2 bits 1", "reset 1", 1, []int{0}, "0 1 0 0", []int{0}, 1},
		{"qubits 2 bits 1", "reset 1", 1, []int{1}, "0 0 0 0", []int{0}, 1},
		{"qubits 1 bits 2", "set 0 1", 0, nil, "1 0", []int{1, 0}, 0},
		{"qubits 1 bits 2", "set 1 1", 0, nil, "1 0", []int{0, 1}, 0},
		{"qubits 1 bits 2", "set 1 0", 0, nil, "1 0", []int{0, 0}, 0},
		{"qubits 1 bits 2", "xor 0 1", 0, nil, "1 0", []int{0, 0}, 0},
		{"qubits 1 bits 2", "load 3 65535", 0, nil, "1 0", []int{0, 0}, 0},
	} {
		got := run(t, image(t, tried.head, tried.line), tried.in, tried.tape, 1)
		ran(t, tried.line, got, strings.Fields(tried.amps), tried.bits, tried.used, 1)
	}
	for _, line := range []string{"jump on", "if1 0 on", "if0 0 on", "loop 0 on"} {
		ran(t, line, run(t, image(t, "qubits 1 bits 1", line, "on:"), 1, nil, 1), []string{"0", "1"}, []int{0}, 0, 1)
	}
	ran(t, "none", run(t, bare, 1, nil, 0), []string{"0", "1"}, nil, 0, 0)
}

// steps holds a program of bits 0 to 2 to its bits and to how many instructions it does.
func steps(t *testing.T, bits []int, count int, list ...string) {
	t.Helper()
	got := run(t, image(t, append([]string{"qubits 1 bits 3"}, list...)...), 0, nil, 1000)
	ran(t, strings.Join(list, ", "), got, []string{"1", "0"}, bits, 0, count)
}

func TestRunGoesOnElsewhere(t *testing.T) {
	steps(t, []int{0, 1, 0}, 2, "jump ahead", "set 0 1", "ahead:", "set 1 1")
	steps(t, []int{1, 1, 0}, 5, "jump on", "back:", "set 0 1", "jump end", "on:", "set 1 1", "jump back", "end:")
	steps(t, []int{0, 0, 0}, 1, "jump end", "set 0 1", "set 1 1", "end:")
	steps(t, []int{0, 0, 0}, 1, "halt", "set 0 1")
	steps(t, []int{1, 0, 0}, 2, "set 0 1", "halt", "set 1 1")
	steps(t, []int{1, 0, 0}, 3, "set 0 1", "jump last", "set 1 1", "last:", "halt")
	steps(t, []int{1, 0, 0}, 3, "if0 0 on", "set 1 1", "on:", "set 0 1", "if1 0 end", "set 2 1", "end:")
	steps(t, []int{1, 1, 0}, 4, "set 0 1", "if0 0 end", "if1 1 end", "set 1 1", "end:")
	steps(t, []int{1, 1, 1}, 4, "set 0 1", "if1 0 on", "set 0 0", "on:", "set 1 1", "set 2 1")
	steps(t, []int{1, 1, 1}, 5, "set 0 1", "if0 0 on", "set 1 1", "on:", "set 2 1", "if0 2 end", "end:")
	steps(t, []int{0, 0, 1}, 3, "if1 2 end", "set 2 1", "jump end", "set 0 1", "end:")
}

func TestRunReckonsWithBits(t *testing.T) {
	for a := range 2 {
		for b := range 2 {
			setA, setB := fmt.Sprintf("set 0 %d", a), fmt.Sprintf("set 2 %d", b)
			steps(t, []int{a ^ b, 0, b}, 3, setA, setB, "xor 0 2")
			steps(t, []int{a, 0, a ^ b}, 3, setA, setB, "xor 2 0")
			steps(t, []int{a, a, b}, 3, setA, setB, "xor 1 0")
			steps(t, []int{0, 0, b}, 3, setA, setB, "xor 0 0")
			steps(t, []int{b, 0, b}, 4, setA, "set 2 1", fmt.Sprintf("set 0 %d", b), setB)
		}
	}
}

// A loop goes back as often as its register says, which is then 0; all registers are 0
// at first.
func TestRunOfLoops(t *testing.T) {
	for r := range 4 {
		steps(t, []int{0, 0, 0}, 1, fmt.Sprintf("loop %d end", r), "end:")
		steps(t, []int{1, 0, 0}, 2, fmt.Sprintf("loop %d end", r), "set 0 1", "end:")
		for n := range 6 {
			load, again := fmt.Sprintf("load %d %d", r, n), fmt.Sprintf("loop %d again", r)
			steps(t, []int{(n + 1) % 2, 1, 0}, 2+2*(n+1), "set 1 1", load, "again:", "xor 0 1", again)
			steps(t, []int{0, 0, 0}, 3+n, load, "again:", again, again)
			steps(t, []int{0, 0, 0}, 5+n, fmt.Sprintf("load %d 9", (r+1)%4), load, "again:", again, fmt.Sprintf("loop %d end", (r+1)%4), "set 2 1", "end:", "halt")
		}
	}
	steps(t, []int{0, 0, 0}, 1+3+3*4+2, "load 0 2", "outer:", "load 1 1", "inner:", "loop 1 inner", "jump on", "on:", "loop 0 outer", "jump end", "halt", "end:", "halt")
	steps(t, []int{0, 0, 0}, 3, "load 0 7", "load 0 0", "loop 0 end", "end:")
	for n, want := range map[int]int{255: 257, 256: 258, 257: 259, 511: 513} {
		steps(t, []int{0, 0, 0}, want, fmt.Sprintf("load 2 %d", n), "again:", "loop 2 again")
	}
}

func TestExampleOfTheDocument(t *testing.T) {
	s := image(t, "qubits 1 bits 0", "x 0", "load 0 2", "again:", "p 1 0", "loop 0 again")
	for _, fuel := range []int{8, 9, 100, api.MaxFuel} {
		ran(t, "the example", run(t, s, 0, nil, fuel), []string{"0", "0,0,0,1"}, nil, 0, 8)
	}
	for fuel, at := range []int{0, 1, 2, 3, 2, 3, 2, 3} {
		stopped(t, "too little fuel", s, 0, nil, fuel, fault(api.ErrFuel, at))
	}
}

func TestRunOfFuel(t *testing.T) {
	three := image(t, "qubits 1 bits 1", "x 0", "set 0 1", "x 0")
	ran(t, "what is needed", run(t, three, 0, nil, 3), []string{"1", "0"}, []int{1}, 0, 3)
	ran(t, "as much as can be", run(t, three, 0, nil, api.MaxFuel), []string{"1", "0"}, []int{1}, 0, 3)
	for fuel := range 3 {
		stopped(t, "too little", three, 0, nil, fuel, fault(api.ErrFuel, fuel))
	}
	for _, fuel := range []int{-1, api.MaxFuel + 1, math.MinInt64, math.MaxInt64, -20000, 1 << 32} {
		stopped(t, "no fuel that is taken", three, 0, nil, fuel, fault(api.ErrRange, 0))
		stopped(t, "no fuel that is taken, and nothing to do", bare, 0, nil, fuel, fault(api.ErrRange, 0))
		stopped(t, "no input either", three, 2, nil, fuel, fault(api.ErrInput, 0))
	}
	halts := image(t, "qubits 1 bits 0", "x 0", "halt", "x 0")
	ran(t, "halt is done, too", run(t, halts, 0, nil, 2), []string{"0", "1"}, nil, 0, 2)
	stopped(t, "no fuel for halt", halts, 0, nil, 1, fault(api.ErrFuel, 1))
	leaves := image(t, "qubits 1 bits 0", "jump end", "x 0", "end:")
	ran(t, "over behind the last one", run(t, leaves, 0, nil, 1), []string{"1", "0"}, nil, 0, 1)
	stopped(t, "no fuel for a jump", leaves, 0, nil, 0, fault(api.ErrFuel, 0))
	endless := image(t, "qubits 12 bits 0", "h 11", "on:", "h 3", "jump on")
	stopped(t, "no end", endless, 0, nil, 0, fault(api.ErrFuel, 0))
	for _, fuel := range []int{2, 4, 100, api.MaxFuel} {
		stopped(t, "no end", endless, 0, nil, fuel-1, fault(api.ErrFuel, 1))
		stopped(t, "no end", endless, 0, nil, fuel, fault(api.ErrFuel, 2))
	}
	stopped(t, "the document's one without an end", image(t, "qubits 1 bits 0", "L0:", "jump L0"), 0, nil, api.MaxFuel, fault(api.ErrFuel, 0))
}

// All the fuel that there is, to the last instruction.
func TestRunOfMaxFuel(t *testing.T) {
	s := image(t, "qubits 1 bits 0", "load 0 9999", "on:", "phase 1", "loop 0 on")
	stopped(t, "one below what is needed", s, 0, nil, api.MaxFuel, fault(api.ErrFuel, 2))
	s = image(t, "qubits 1 bits 0", "load 0 9998", "on:", "phase 1", "loop 0 on", "x 0")
	ran(t, "just enough", run(t, s, 0, nil, api.MaxFuel), []string{"0", ring.Root(9999).Text()}, nil, 0, 20000)
	stopped(t, "one below what is needed", s, 0, nil, api.MaxFuel-1, fault(api.ErrFuel, 3))
}

// square are the amplitudes that a gate of one qubit makes of both basis states.
type square [2][2]ring.Num

// then is what two of them make, one after the other.
func (a square) then(b square) square {
	var out square
	for from := range 2 {
		for to := range 2 {
			out[from][to] = a[from][0].Mul(b[0][to]).Add(a[from][1].Mul(b[1][to]))
		}
	}
	return out
}

// times is one of them so often.
func (a square) times(n int) square {
	out := square{{ring.Root(0), {}}, {{}, ring.Root(0)}}
	for range n {
		out = out.then(a)
	}
	return out
}

// More operations than a circuit can have are done: held to powers of a matrix.
func TestRunOfManyOperations(t *testing.T) {
	h := square{{ring.Rt(), ring.Rt()}, {ring.Rt(), ring.Rt().Neg()}}
	p := square{{ring.Root(0), {}}, {{}, ring.Root(5)}}
	want := h.then(p).times(4000)
	s := image(t, "qubits 1 bits 0", "load 3 3999", "on:", "h 0", "p 5 0", "loop 3 on")
	for in := range 2 {
		ran(t, "many operations", run(t, s, in, nil, 12001), []string{want[in][0].Text(), want[in][1].Text()}, nil, 0, 12001)
	}
	straight := []string{"qubits 2 bits 0"}
	for i := range 19999 {
		straight = append(straight, []string{"x 0", "cx 0 1", "p 3 1"}[i%3])
	}
	ran(t, "many instructions", run(t, image(t, straight...), 0, nil, api.MaxFuel), straightWant(19999), nil, 0, 19999)
}

// straightWant is what x 0, cx 0 1, p 3 1, done one after the other, leave of 0.
func straightWant(count int) []string {
	state, turn := 0, 0
	for i := range count {
		switch i % 3 {
		case 0:
			state ^= 1
		case 1:
			state ^= state & 1 << 1
		case 2:
			turn += 3 * (state >> 1)
		}
	}
	out := []string{"0", "0", "0", "0"}
	out[state] = ring.Root(turn).Text()
	return out
}

func TestRunOfInputs(t *testing.T) {
	for qubits := 1; qubits <= 12; qubits++ {
		s := image(t, fmt.Sprintf("qubits %d bits 0", qubits))
		for _, in := range []int{0, 1, 1<<qubits - 1, 1 << (qubits - 1)} {
			amps := slices.Repeat([]string{"0"}, 1<<qubits)
			amps[in] = "1"
			ran(t, "a basis state", run(t, s, in, nil, 0), amps, nil, 0, 0)
		}
		for _, in := range []int{-1, 1 << qubits, 1<<qubits + 1, math.MinInt64, math.MaxInt64, 1 << 32} {
			stopped(t, "no basis state", s, in, nil, 0, fault(api.ErrInput, 0))
		}
	}
	stopped(t, "no basis state, no image", bare+"x", 2, nil, -1, fault(api.ErrForm, 12))
}

func TestRunOfTapes(t *testing.T) {
	s := image(t, "qubits 2 bits 2", "h 0", "measure 0 1", "x 1", "reset 1", "set 0 1", "measure 0 0")
	for _, tried := range []struct {
		tape []int
		want api.Fault
	}{
		{nil, fault(api.ErrTape, 1)}, {[]int{}, fault(api.ErrTape, 1)}, {[]int{0}, fault(api.ErrTape, 3)}, {[]int{1, 1}, fault(api.ErrTape, 5)},
		{[]int{2}, fault(api.ErrOutcome, 1)}, {[]int{-1, 0, 0}, fault(api.ErrOutcome, 1)}, {[]int{1, 2, 0}, fault(api.ErrOutcome, 3)}, {[]int{1, 1, math.MinInt64}, fault(api.ErrOutcome, 5)},
		{[]int{0, 0, 1 << 32}, fault(api.ErrOutcome, 5)}, {[]int{0, 3}, fault(api.ErrOutcome, 3)}, {[]int{1 << 32}, fault(api.ErrOutcome, 1)},
	} {
		stopped(t, "a tape", s, 0, tried.tape, 6, tried.want)
	}
	ran(t, "just long enough", run(t, s, 0, []int{1, 1, 1}, 6), []string{"0", half, "0", "0"}, []int{1, 1}, 3, 6)
	ran(t, "too long", run(t, s, 0, []int{0, 1, 0, 2, -7, 1}, 6), []string{half, "0", "0", "0"}, []int{0, 0}, 3, 6)
	ran(t, "what cannot come", run(t, s, 0, []int{0, 0, 1}, 6), []string{"0", "0", "0", "0"}, []int{1, 0}, 3, 6)
	stopped(t, "no fuel to ask", s, 0, nil, 1, fault(api.ErrFuel, 1))
	stopped(t, "no fuel to ask", s, 0, []int{0, 9}, 3, fault(api.ErrFuel, 3))
	stopped(t, "the tape is told where the fuel still lasts", s, 0, []int{0, 9}, 4, fault(api.ErrOutcome, 3))
	again := image(t, "qubits 1 bits 1", "on:", "h 0", "measure 0 0", "if1 0 on")
	for ones := range 9 {
		tape := append(slices.Repeat([]int{1}, ones), 0)
		got := run(t, again, 0, append(tape, 1, 1, 5), 3*ones+3)
		equal(t, "as often as it was 1", []int{got.Shot.Used, got.Steps, got.Shot.Bits[0]}, []int{ones + 1, 3*ones + 3, 0})
		stopped(t, "a tape of ones", again, 0, tape[:ones], api.MaxFuel, fault(api.ErrTape, 1))
	}
	skips := image(t, "qubits 1 bits 1", "jump end", "measure 0 0", "reset 0", "end:")
	ran(t, "what is not done asks for nothing", run(t, skips, 0, nil, 1), []string{"1", "0"}, []int{0}, 0, 1)
}

// A bit that is measured again, and one that is set or added behind it, is what it became last.
func TestRunOfBitsThatAreMeasured(t *testing.T) {
	s := image(t, "qubits 2 bits 2", "measure 0 0", "measure 1 0", "xor 1 0", "set 0 0", "measure 0 0", "xor 1 0")
	for in := range 4 {
		low, high := in&1, in>>1
		amps := []string{"0", "0", "0", "0"}
		amps[in] = "1"
		ran(t, "measured", run(t, s, in, []int{low, high, low}, 6), amps, []int{low, high ^ low}, 3, 6)
	}
	equal(t, "a reset writes no bit", run(t, image(t, "qubits 1 bits 1", "set 0 1", "reset 0"), 1, []int{1}, 2).Shot.Bits, []int{1})
}

// compared holds a run to the document's words.
func compared(t *testing.T, image string, in int, tape []int, fuel int) int {
	t.Helper()
	want, wf := wantedRun(t, image, in, tape, fuel)
	got, f := mach.Run(image, in, tape, fuel)
	if g, w := fmt.Sprintf("%+v", got), fmt.Sprintf("%+v", want); g != w || f != wf {
		text, _ := wantedText(image)
		t.Errorf("Run of %s from %d with %v and %d: %s, %v, want %s, %v", short(text), in, tape, fuel, short(g), f, short(w), wf)
	}
	return wf.Code
}

// labelled are lines with the labels A and B ahead of those places.
func labelled(list []string, a, b int) []string {
	var out []string
	for place := range len(list) + 1 {
		if place == a {
			out = append(out, "A:")
		}
		if place == b {
			out = append(out, "B:")
		}
		out = append(out, list[place:min(place+1, len(list))]...)
	}
	return out
}

// All programs of up to three of some instructions, with every tape.
func TestRunOfAllShortPrograms(t *testing.T) {
	pool := []string{"halt", "x 0", "h 0", "measure 0 0", "reset 0", "jump A", "if1 0 B", "if0 0 A", "loop 1 A", "set 0 1", "xor 0 1", "load 1 2"}
	var visit func(list []string)
	visit = func(list []string) {
		for a := range len(list) + 1 {
			text := labelled(list, a, len(list)-a)
			s := image(t, append([]string{"qubits 1 bits 2"}, text...)...)
			for _, tape := range tapes(2) {
				compared(t, s, 0, tape, 10)
			}
		}
		if len(list) < 3 {
			for _, one := range pool {
				visit(append(slices.Clone(list), one))
			}
		}
	}
	visit(nil)
}

// Programs of all instructions, without order.
func TestRunOfPrograms(t *testing.T) {
	met := map[int]int{}
	for i := range 6000 {
		n := noise(i)
		qubits := 1 + n.below(4)
		s := image(t, strings.Split(strings.TrimSuffix(n.program(qubits, n.below(4), n.below(25)), "\n"), "\n")...)
		in, fuel := n.below(1<<qubits), []int{n.below(60), 300, 1000}[n.below(3)]
		if n.below(30) == 0 {
			in = n.odd()
		}
		if n.below(30) == 0 {
			fuel = n.odd()
		}
		met[compared(t, s, in, n.tape(), fuel)]++
	}
	for _, code := range []int{0, api.ErrFuel, api.ErrTape, api.ErrOutcome, api.ErrInput, api.ErrRange} {
		if met[code] < 20 {
			t.Errorf("only %d runs with the code %d", met[code], code)
		}
	}
}

func TestRunTellsTheFirstFault(t *testing.T) {
	s := image(t, "qubits 1 bits 1", "x 0", "measure 0 0", "x 0")
	stopped(t, "all is wrong", "x"+s, -1, []int{9}, -1, fault(api.ErrMagic, 0))
	stopped(t, "all but the image is wrong", s, -1, []int{9}, -1, fault(api.ErrInput, 0))
	stopped(t, "fuel and outcomes are wrong", s, 0, []int{9}, -1, fault(api.ErrRange, 0))
	stopped(t, "there is no fuel, and outcomes are wrong", s, 0, []int{9}, 0, fault(api.ErrFuel, 0))
	stopped(t, "there is little fuel, and outcomes are wrong", s, 0, []int{9}, 1, fault(api.ErrFuel, 1))
	stopped(t, "there is fuel, and outcomes are wrong", s, 0, []int{9}, 2, fault(api.ErrOutcome, 1))
	stopped(t, "there is fuel, and no tape", s, 0, nil, 2, fault(api.ErrTape, 1))
	stopped(t, "there is too little fuel at the end", s, 0, []int{1}, 2, fault(api.ErrFuel, 2))
	ran(t, "nothing is wrong", run(t, s, 1, []int{0}, 3), []string{"0", "1"}, []int{0}, 1, 3)
}
