package state_test

import (
	"math"
	"math/cmplx"
	"strconv"
	"strings"
	"testing"

	"qloom/api"
	"qloom/state"
)

const (
	rt    = "0,0,1,0,0,0,-1/1" // one over the root of two
	minus = "0,0,-1,0,0,0,1/1"
)

// The document's examples.
func TestExamples(t *testing.T) {
	c := circuit(t, "qubits 2 bits 1", "h 0", "x 1 on 0", "measure 1 to 0 if !0")
	equal(t, "Run", shot(t, c, 0, 1), api.Shot{Amps: []string{"0", "0", "0", rt}, Bits: []int{1}, Used: 1})
	equal(t, "Chances", chances(t, c, 0), []api.Branch{{Tape: []int{0}, Bits: []int{0}, Chance: "1/1"}, {Tape: []int{1}, Bits: []int{1}, Chance: "1/1"}})
	equal(t, "Reduced", reduced(t, c, 0, 0), [][]string{{"1/1", "0"}, {"0", "1/1"}})
	pair := circuit(t, "qubits 2 bits 0", "h 0", "x 1 on 0")
	equal(t, "the pair of DOC.md", shot(t, pair, 0), api.Shot{Amps: []string{rt, "0", "0", rt}})
}

// Each kind by itself, with and without controls, from each basis state.
func TestEachGate(t *testing.T) {
	for _, c := range []struct {
		line string
		rows string // what is left of each basis state
	}{
		{"phase 0", "1 0 0 0; 0 1 0 0; 0 0 1 0; 0 0 0 1"},
		{"phase 3", "q 0 0 0; 0 q 0 0; 0 0 q 0; 0 0 0 q"},
		{"phase 8", "-1 0 0 0; 0 -1 0 0; 0 0 -1 0; 0 0 0 -1"},
		{"x 0", "0 1 0 0; 1 0 0 0; 0 0 0 1; 0 0 1 0"},
		{"x 1", "0 0 1 0; 0 0 0 1; 1 0 0 0; 0 1 0 0"},
		{"x 0 on 1", "1 0 0 0; 0 1 0 0; 0 0 0 1; 0 0 1 0"},
		{"x 1 on 0", "1 0 0 0; 0 0 0 1; 0 0 1 0; 0 1 0 0"},
		{"h 0", "r r 0 0; r m 0 0; 0 0 r r; 0 0 r m"},
		{"h 1", "r 0 r 0; 0 r 0 r; r 0 m 0; 0 r 0 m"},
		{"h 0 on 1", "1 0 0 0; 0 1 0 0; 0 0 r r; 0 0 r m"},
		{"h 1 on 0", "1 0 0 0; 0 r 0 r; 0 0 1 0; 0 r 0 m"},
		{"p 3 0", "1 0 0 0; 0 q 0 0; 0 0 1 0; 0 0 0 q"},
		{"p 3 1", "1 0 0 0; 0 1 0 0; 0 0 q 0; 0 0 0 q"},
		{"p 8 1", "1 0 0 0; 0 1 0 0; 0 0 -1 0; 0 0 0 -1"},
		{"p 3 0 on 1", "1 0 0 0; 0 1 0 0; 0 0 1 0; 0 0 0 q"},
		{"p 3 1 on 0", "1 0 0 0; 0 1 0 0; 0 0 1 0; 0 0 0 q"},
	} {
		for in, row := range strings.Split(c.rows, "; ") {
			want := strings.NewReplacer("q", "0,0,0,1", "r", rt, "m", minus).Replace(row)
			got := shot(t, circuit(t, "qubits 2 bits 0", c.line), in)
			equal(t, c.line, strings.Join(got.Amps, " "), want)
		}
	}
}

func TestSeveralControls(t *testing.T) {
	for in := range 16 {
		want := in
		if in&0b1011 == 0b1011 {
			want = in ^ 0b0100
		}
		equal(t, "x", shot(t, circuit(t, "qubits 4 bits 0", "x 2 on 3 0 1"), in).Amps, basis(16, want))
		turned := basis(16, in)
		if in&0b1110 == 0b1110 {
			turned[in] = "0,0,0,0,0,-1"
		}
		equal(t, "p", shot(t, circuit(t, "qubits 4 bits 0", "p 13 2 on 3 1"), in).Amps, turned)
	}
}

func TestTurns(t *testing.T) {
	for k := range 16 {
		want := strings.Repeat("0,", k%8) + "1"
		if k >= 8 {
			want = strings.Repeat("0,", k%8) + "-1"
		}
		line := strconv.Itoa(k)
		equal(t, "phase "+line, shot(t, circuit(t, "qubits 1 bits 0", "phase "+line), 0).Amps, []string{want, "0"})
		equal(t, "p "+line, shot(t, circuit(t, "qubits 1 bits 0", "p "+line+" 0"), 1).Amps, []string{"0", want})
		equal(t, "p "+line, shot(t, circuit(t, "qubits 1 bits 0", "p "+line+" 0"), 0).Amps, []string{"1", "0"})
	}
}

func TestMeasureAndReset(t *testing.T) {
	spread := []string{"qubits 2 bits 2", "h 0", "x 1 on 0", "p 4 1"}
	turned := "0,0,1,0,0,0,1/1" // z^4 over the root of two
	for _, c := range []struct {
		line string
		tape []int
		want api.Shot
	}{
		{"measure 0 to 0", []int{0}, api.Shot{Amps: []string{rt, "0", "0", "0"}, Bits: []int{0, 0}, Used: 1}},
		{"measure 0 to 0", []int{1}, api.Shot{Amps: []string{"0", "0", "0", turned}, Bits: []int{1, 0}, Used: 1}},
		{"measure 1 to 1", []int{1}, api.Shot{Amps: []string{"0", "0", "0", turned}, Bits: []int{0, 1}, Used: 1}},
		{"measure 1 to 1", []int{0}, api.Shot{Amps: []string{rt, "0", "0", "0"}, Bits: []int{0, 0}, Used: 1}},
		{"reset 0", []int{0}, api.Shot{Amps: []string{rt, "0", "0", "0"}, Bits: []int{0, 0}, Used: 1}},
		{"reset 0", []int{1}, api.Shot{Amps: []string{"0", "0", turned, "0"}, Bits: []int{0, 0}, Used: 1}},
		{"reset 1", []int{1}, api.Shot{Amps: []string{"0", turned, "0", "0"}, Bits: []int{0, 0}, Used: 1}},
	} {
		equal(t, c.line, shot(t, circuit(t, append(spread, c.line)...), 0, c.tape...), c.want)
	}
}

// A bit is what was measured into it last.
func TestBitsAreWrittenAgain(t *testing.T) {
	c := circuit(t, "qubits 2 bits 2", "x 0", "measure 0 to 1", "measure 1 to 1", "x 1", "measure 1 to 0", "measure 0 to 0")
	equal(t, "bits", shot(t, c, 0, 1, 0, 1, 1), api.Shot{Amps: basis(4, 3), Bits: []int{1, 0}, Used: 4})
	equal(t, "bits", shot(t, c, 1, 0, 0, 1, 0), api.Shot{Amps: basis(4, 2), Bits: []int{0, 0}, Used: 4})
}

func TestConditions(t *testing.T) {
	// Bit 0 is 1, bits 1 and 2 are 0.
	begin := []string{"qubits 2 bits 3", "x 0", "measure 0 to 0"}
	for conditions, held := range map[string]bool{
		"0": true, "!0": false, "1": false, "!1": true, "2": false, "!2": true, "0 !1 !2": true, "0 !1 2": false, "1 0": false, "!0 !1": false,
		"0 0 0": true, "!1 !1": true, "0 !0": false, "!0 0": false, "!2 0 !1 0 !2": true, "!2 0 !1 !0 !2": false,
	} {
		for _, line := range []string{"x 1", "phase 8", "h 1", "p 8 0", "x 1 on 0", "h 1 on 0", "p 8 0 on 1", "measure 1 to 1", "reset 0"} {
			with, bare := begin, begin
			with = append(with[:3:3], line+" if "+conditions)
			if held {
				bare = append(bare[:3:3], line)
			}
			equal(t, line+" if "+conditions, shot(t, circuit(t, with...), 0, 1, 1), shot(t, circuit(t, bare...), 0, 1, 1))
		}
	}
}

func TestInputs(t *testing.T) {
	for n := 1; n <= api.MaxQubits; n++ {
		c := api.Circuit{Qubits: n, Ops: []api.Op{{Kind: api.Reset}}}
		for _, in := range []int{0, 1<<n - 1} {
			s, f := state.Run(c, in, []int{in & 1})
			equal(t, "in", f, none)
			equal(t, "in", s.Amps, basis(1<<n, in&^1))
		}
		for _, in := range []int{-1, 1 << n, 1<<n + 1, math.MinInt64, math.MaxInt64} {
			for _, tape := range [][]int{nil, {0}, {7}} {
				s, f := state.Run(c, in, tape)
				equal(t, "no input", f, fault(api.ErrInput, 0))
				equal(t, "no input", s, api.Shot{})
				text, f := state.Chance(c, in, tape)
				equal(t, "no input of Chance", f, fault(api.ErrInput, 0))
				equal(t, "no input of Chance", text, "")
			}
		}
	}
}

// Check's faults come ahead of all others, wherever they stand.
func TestFaultsOfTheCircuitComeFirst(t *testing.T) {
	for _, c := range badPool() {
		for _, in := range []int{0, -1, 1 << 20} {
			for _, tape := range [][]int{nil, {0, 1, 0, 0, 1, 1}, {2}} {
				_, _, _, want := modelRun(c, in, tape)
				s, f := state.Run(c, in, tape)
				equal(t, short(c), f, want)
				if f != none {
					equal(t, "with a fault", s, api.Shot{})
				}
				text, f := state.Chance(c, in, tape)
				equal(t, short(c), f, want)
				if f != none {
					equal(t, "with a fault", text, "")
				}
			}
		}
	}
}

func TestTapes(t *testing.T) {
	c := circuit(t, "qubits 2 bits 2", "h 0", "measure 0 to 0", "x 1", "reset 0 if 0", "measure 1 to 1 if !0", "h 1", "measure 1 to 0")
	for _, d := range []struct {
		tape []int
		want api.Fault
		used int
	}{
		{nil, fault(api.ErrTape, 1), 0}, {[]int{}, fault(api.ErrTape, 1), 0},
		{[]int{0}, fault(api.ErrTape, 4), 0}, {[]int{1}, fault(api.ErrTape, 3), 0},
		{[]int{0, 1}, fault(api.ErrTape, 6), 0}, {[]int{1, 1}, fault(api.ErrTape, 6), 0},
		{[]int{0, 1, 1}, none, 3}, {[]int{1, 1, 0}, none, 3},
		{[]int{2}, fault(api.ErrOutcome, 1), 0}, {[]int{-1}, fault(api.ErrOutcome, 1), 0}, {[]int{math.MaxInt64}, fault(api.ErrOutcome, 1), 0},
		{[]int{math.MinInt64, 0, 0}, fault(api.ErrOutcome, 1), 0}, {[]int{2, 2, 2, 2}, fault(api.ErrOutcome, 1), 0},
		{[]int{0, 2}, fault(api.ErrOutcome, 4), 0}, {[]int{1, -1, 0}, fault(api.ErrOutcome, 3), 0}, {[]int{0, 0, 256}, fault(api.ErrOutcome, 6), 0},
		{[]int{0, 0, 0, 2}, none, 3}, {[]int{0, 0, 0, -1, 2, 3}, none, 3}, {[]int{1, 0, 0, 1, 1, 1, 1, 1}, none, 3},
	} {
		s, f := state.Run(c, 0, d.tape)
		equal(t, "Run's fault", f, d.want)
		equal(t, "used", s.Used, d.used)
		_, f = state.Chance(c, 0, d.tape)
		equal(t, "Chance's fault", f, d.want)
		if d.want != none {
			equal(t, "with a fault", s, api.Shot{})
		}
	}
	equal(t, "no outcome is asked for", shot(t, circuit(t, "qubits 1 bits 1", "measure 0 to 0 if 0"), 0, 7).Used, 0)
}

// A tape that is right where it is used leaves the same, whatever is left of it.
func TestRestOfTheTapeDoesNotMatter(t *testing.T) {
	c := circuit(t, "qubits 1 bits 1", "h 0", "measure 0 to 0")
	equal(t, "rest", shot(t, c, 0, 1, 0, 99, -3), shot(t, c, 0, 1))
}

// What cannot come leaves nothing, and the run goes on.
func TestOutcomesThatCannotCome(t *testing.T) {
	c := circuit(t, "qubits 2 bits 2", "measure 0 to 0", "h 0", "x 1 on 0", "measure 1 to 1", "reset 0", "phase 3", "p 2 1")
	nothing := []string{"0", "0", "0", "0"}
	equal(t, "Run", shot(t, c, 0, 1, 1, 0), api.Shot{Amps: nothing, Bits: []int{1, 1}, Used: 3})
	for tape, want := range map[[3]int]string{{1, 1, 0}: "0", {1, 0, 0}: "0", {0, 1, 0}: "0", {0, 0, 1}: "0", {0, 1, 1}: "1/1", {0, 0, 0}: "1/1"} {
		text, f := state.Chance(c, 0, tape[:])
		equal(t, "Chance's fault", f, none)
		equal(t, "Chance", text, want)
	}
	_, f := state.Run(c, 0, []int{1, 1})
	equal(t, "a tape that is too short, behind what cannot come", f, fault(api.ErrTape, 4))
	_, f = state.Run(c, 0, []int{1, 1, 5})
	equal(t, "no outcome, behind what cannot come", f, fault(api.ErrOutcome, 4))
}

func TestChance(t *testing.T) {
	c := circuit(t, "qubits 1 bits 1", "h 0", "p 2 0", "h 0", "measure 0 to 0")
	for outcome, want := range []string{"2,0,1,0,0,0,-1/2", "2,0,-1,0,0,0,1/2"} {
		text, f := state.Chance(c, 0, []int{outcome, 9})
		equal(t, "Chance's fault", f, none)
		equal(t, "Chance", text, want)
	}
	text, f := state.Chance(circuit(t, "qubits 2 bits 0", "h 0", "p 1 0", "h 1 on 0"), 0, nil)
	equal(t, "Chance's fault", f, none)
	equal(t, "of no outcome", text, "1")
}

// From each basis state, with all kinds of tapes, Run and Chance are held
// against the model.
func TestRunsAreAsTheModel(t *testing.T) {
	seed := noise(3)
	for _, c := range pool() {
		for range 6 {
			in, tape := seed.below(1<<c.Qubits), seed.tape(seed.below(8))
			if seed.below(8) == 0 && len(tape) > 0 {
				tape[seed.below(len(tape))] = seed.odd()
			}
			amps, bits, used, want := modelRun(c, in, tape)
			got, f := state.Run(c, in, tape)
			equal(t, short(c), f, want)
			equal(t, short(c), got, api.Shot{Amps: modelTexts(amps), Bits: bits, Used: used})
			text, f := state.Chance(c, in, tape)
			equal(t, short(c), f, want)
			if want == none {
				equal(t, short(c), text, modelChance(amps).Text())
			}
		}
	}
}

func TestRunsOfMaxQubits(t *testing.T) {
	seed := noise(4)
	c := api.Circuit{Qubits: api.MaxQubits, Bits: api.MaxBits}
	for range 4 {
		c.Ops = append(c.Ops, seed.ops(all(c.Qubits), c.Bits, 10, 3)...)
		tape := seed.tape(len(c.Ops))
		amps, bits, used, _ := modelRun(c, 4095, tape)
		equal(t, "12 qubits", shot(t, c, 4095, tape...), api.Shot{Amps: modelTexts(amps), Bits: bits, Used: used})
	}
	spread := c
	spread.Ops = nil
	for q := range c.Qubits {
		spread.Ops = append(spread.Ops, api.Op{Kind: api.H, Q: q}, api.Op{Kind: api.P, K: q, Q: q})
	}
	for x, text := range shot(t, spread, 0).Amps {
		turn := 0
		for q := range c.Qubits {
			turn += q * qubit(x, q)
		}
		equal(t, "spread", text, number(t, "1/6").Turn(turn).Text())
	}
}

// value is about the number that a text means: z is a turn by a sixteenth.
func value(text string) complex128 {
	parts, power, _ := strings.Cut(text, "/")
	down, _ := strconv.Atoi(power)
	var out complex128
	for i, part := range strings.Split(parts, ",") {
		size, _ := strconv.ParseFloat(part, 64)
		out += cmplx.Rect(size, 2*math.Pi*float64(i)/16)
	}
	return out / complex(math.Ldexp(1, down), 0)
}

// Gates mean what they mean everywhere: told by complex numbers, once.
func TestGatesMeanTurnsAndMixtures(t *testing.T) {
	c := circuit(t, "qubits 1 bits 0", "h 0", "p 3 0", "h 0", "phase 1", "p 5 0", "h 0")
	a, b := complex128(1), complex128(0)
	turn := func(k int) complex128 { return cmplx.Rect(1, 2*math.Pi*float64(k)/16) }
	mix := func() {
		a, b = (a+b)/complex(math.Sqrt2, 0), (a-b)/complex(math.Sqrt2, 0)
	}
	mix()
	b *= turn(3)
	mix()
	a, b = a*turn(1), b*turn(1)
	b *= turn(5)
	mix()
	got := shot(t, c, 0).Amps
	for i, want := range []complex128{a, b} {
		if cmplx.Abs(value(got[i])-want) > 1e-12 {
			t.Errorf("amplitude %d: %s, want about %v", i, got[i], want)
		}
	}
}

// Circuits of MaxOps operations end, and their numbers are as long as they must be.
func TestLongRuns(t *testing.T) {
	mixed := repeated(t, api.MaxOps/4, "qubits 2 bits 0", "h 0", "p 1 1 on 0", "h 1", "p 1 0 on 1")
	equal(t, "operations", len(mixed.Ops), api.MaxOps)
	got := shot(t, mixed, 1)
	if len(got.Amps[0]) < 2000 {
		t.Errorf("an amplitude is %s", short(got.Amps[0]))
	}
	text, f := state.Chance(mixed, 1, nil)
	equal(t, "Chance's fault", f, none)
	equal(t, "Chance", text, "1")
	equal(t, "there and back", shot(t, repeated(t, api.MaxOps/2, "qubits 3 bits 0", "h 0", "h 0"), 5).Amps, basis(8, 5))
	wide := repeated(t, api.MaxOps/2, "qubits 12 bits 0", "x 11 on 0", "p 1 11")
	equal(t, "12 qubits", shot(t, wide, 1).Amps, basis(4096, 1))
	measured := repeated(t, api.MaxOps, "qubits 1 bits 1", "measure 0 to 0")
	tape := make([]int, api.MaxOps)
	equal(t, "all measured", shot(t, measured, 0, tape...), api.Shot{Amps: []string{"1", "0"}, Bits: []int{0}, Used: api.MaxOps})
	_, f = state.Run(measured, 0, tape[1:])
	equal(t, "one outcome short", f, fault(api.ErrTape, api.MaxOps-1))
}
