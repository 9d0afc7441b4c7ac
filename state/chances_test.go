package state_test

import (
	"math"
	"slices"
	"strconv"
	"testing"

	"qloom/api"
	"qloom/ring"
	"qloom/state"
)

// tooMany: does Chances tell that there are too many, and nothing else?
func tooMany(t *testing.T, what string, c api.Circuit) {
	t.Helper()
	out, f := state.Chances(c, 0)
	equal(t, what, f, fault(api.ErrMany, 0))
	equal(t, what, len(out), 0)
}

func TestChancesOfFewTapes(t *testing.T) {
	for _, c := range []struct {
		lines []string
		want  []api.Branch
	}{
		{[]string{"qubits 1 bits 0"}, []api.Branch{{Chance: "1"}}},
		{[]string{"qubits 1 bits 2", "h 0"}, []api.Branch{{Bits: []int{0, 0}, Chance: "1"}}},
		{[]string{"qubits 1 bits 1", "measure 0 to 0"}, []api.Branch{{Tape: []int{0}, Bits: []int{0}, Chance: "1"}}},
		{[]string{"qubits 1 bits 1", "x 0", "measure 0 to 0"}, []api.Branch{{Tape: []int{1}, Bits: []int{1}, Chance: "1"}}},
		{[]string{"qubits 1 bits 0", "h 0", "reset 0", "reset 0"}, []api.Branch{{Tape: []int{0, 0}, Chance: "1/1"}, {Tape: []int{1, 0}, Chance: "1/1"}}},
		{[]string{"qubits 1 bits 1", "h 0", "p 2 0", "h 0", "measure 0 to 0"}, []api.Branch{
			{Tape: []int{0}, Bits: []int{0}, Chance: "2,0,1,0,0,0,-1/2"}, {Tape: []int{1}, Bits: []int{1}, Chance: "2,0,-1,0,0,0,1/2"}}},
		// Each tape is as long as it is used.
		{[]string{"qubits 1 bits 2", "h 0", "measure 0 to 0", "h 0", "measure 0 to 1 if !0"}, []api.Branch{
			{Tape: []int{0, 0}, Bits: []int{0, 0}, Chance: "1/2"}, {Tape: []int{0, 1}, Bits: []int{0, 1}, Chance: "1/2"}, {Tape: []int{1}, Bits: []int{1, 0}, Chance: "1/1"}}},
		{[]string{"qubits 1 bits 2", "h 0", "measure 0 to 1", "h 0", "measure 0 to 0 if 1"}, []api.Branch{
			{Tape: []int{0}, Bits: []int{0, 0}, Chance: "1/1"}, {Tape: []int{1, 0}, Bits: []int{0, 1}, Chance: "1/2"}, {Tape: []int{1, 1}, Bits: []int{1, 1}, Chance: "1/2"}}},
	} {
		equal(t, short(c.lines), chances(t, circuit(t, c.lines...), 0), c.want)
	}
}

func TestChancesAreAsTheModel(t *testing.T) {
	seed := noise(5)
	for _, c := range pool() {
		in := seed.below(1 << c.Qubits)
		equal(t, short(c), chances(t, c, in), modelChances(c, in))
	}
}

func TestChancesAddUpToOne(t *testing.T) {
	seed := noise(6)
	for i := range 40 {
		c := seed.circuit(1+i%5, 40, 9)
		var sum ring.Num
		for _, branch := range chances(t, c, seed.below(1<<c.Qubits)) {
			sum = sum.Add(number(t, branch.Chance))
		}
		equal(t, short(c), sum.Text(), "1")
	}
}

// Each branch is what Run and Chance tell of its tape, and all of it is used.
func TestBranchesAreRuns(t *testing.T) {
	seed := noise(7)
	for i := range 30 {
		c := seed.circuit(2+i%4, 40, 8)
		for _, branch := range chances(t, c, 1) {
			s := shot(t, c, 1, branch.Tape...)
			equal(t, "used", s.Used, len(branch.Tape))
			equal(t, "bits", branch.Bits, s.Bits)
			text, _ := state.Chance(c, 1, branch.Tape)
			equal(t, "chance", branch.Chance, text)
		}
	}
}

func TestFaultsOfChances(t *testing.T) {
	for _, c := range badPool() {
		for _, in := range []int{0, -1, 1 << 20} {
			out, f := state.Chances(c, in)
			equal(t, short(c), f, modelCheck(c, in))
			if f != none {
				equal(t, "with a fault", len(out), 0)
			}
		}
	}
	c := repeated(t, 20, "qubits 2 bits 1", "h 0", "measure 0 to 0")
	for _, in := range []int{-1, 4, math.MinInt64, math.MaxInt64} {
		_, f := state.Chances(c, in)
		equal(t, "no input, and too many tapes", f, fault(api.ErrInput, 0))
	}
	c.Ops[3].Q = 2
	_, f := state.Chances(c, -1)
	equal(t, "no qubit, no input, and too many tapes", f, fault(api.ErrQubit, 3))
}

// halves is a circuit with 2^n tapes.
func halves(t *testing.T, n int) api.Circuit {
	t.Helper()
	return repeated(t, n, "qubits 1 bits 1", "h 0", "measure 0 to 0")
}

func TestAsManyTapesAsAreTold(t *testing.T) {
	got := chances(t, halves(t, 10), 0)
	equal(t, "tapes", len(got), api.MaxFan)
	for i, branch := range got {
		var tape []int
		for bit := 9; bit >= 0; bit-- {
			tape = append(tape, qubit(i, bit))
		}
		equal(t, "branch", branch, api.Branch{Tape: tape, Bits: tape[9:], Chance: "1/10"})
	}
	tooMany(t, "2^11 tapes", halves(t, 11))
	tooMany(t, "2^60 tapes", halves(t, 60))
	tooMany(t, "2^2048 tapes", halves(t, api.MaxOps/2))
}

// chain is a circuit with n + 1 tapes: it goes on while the outcome is the one
// that is asked for, and behind the last it does no more.
func chain(t *testing.T, n, goOn int) api.Circuit {
	t.Helper()
	condition := "!0"
	if goOn == 1 {
		condition = "0"
	}
	c := repeated(t, n, "qubits 1 bits 1", "h 0 if "+condition, "measure 0 to 0 if "+condition)
	if goOn == 1 {
		return then(t, circuit(t, "qubits 1 bits 1", "x 0", "measure 0 to 0"), c)
	}
	return c
}

func TestTapesOfUnlikeLengths(t *testing.T) {
	for goOn := range 2 {
		got := chances(t, chain(t, api.MaxFan-1, goOn), 0)
		equal(t, "tapes", len(got), api.MaxFan)
		for i, branch := range got {
			steps := i
			if goOn == 0 {
				steps = api.MaxFan - 1 - i
			}
			tape := slices.Repeat([]int{goOn}, steps)
			power := steps
			if steps < api.MaxFan-1 {
				tape = append(tape, 1-goOn)
				power++
			}
			if goOn == 1 {
				tape = append([]int{1}, tape...)
			}
			equal(t, "branch "+strconv.Itoa(i), branch, api.Branch{Tape: tape, Bits: tape[len(tape)-1:], Chance: "1/" + strconv.Itoa(power)})
		}
		tooMany(t, "one tape more", chain(t, api.MaxFan, goOn))
	}
}

// Outcomes that cannot come are not counted, however many there are.
func TestLongTapesOfOneBranch(t *testing.T) {
	c := repeated(t, api.MaxOps-2, "qubits 3 bits 1", "measure 1 to 0")
	c.Ops = append([]api.Op{{Kind: api.X, Q: 1}, {Kind: api.H}}, c.Ops...)
	got := chances(t, c, 0)
	equal(t, "branches", got, []api.Branch{{Tape: slices.Repeat([]int{1}, api.MaxOps-2), Bits: []int{1}, Chance: "1"}})
	twice := repeated(t, 10, "qubits 12 bits 1", "h 3", "reset 3", "reset 3", "measure 3 to 0")
	for _, branch := range chances(t, twice, 0) {
		equal(t, "length", len(branch.Tape), 30)
		equal(t, "chance", branch.Chance, "1/10")
	}
}

func TestChancesOfMaxQubits(t *testing.T) {
	c := api.Circuit{Qubits: api.MaxQubits, Bits: api.MaxBits}
	for q := range c.Qubits {
		c.Ops = append(c.Ops, api.Op{Kind: api.H, Q: q})
	}
	for q := range 10 {
		c.Ops = append(c.Ops, api.Op{Kind: api.Measure, Q: q, Bit: q})
	}
	got := chances(t, c, 4095)
	equal(t, "tapes", len(got), api.MaxFan)
	equal(t, "the last", got[api.MaxFan-1], api.Branch{Tape: slices.Repeat([]int{1}, 10), Bits: []int{1, 1, 1, 1, 1, 1, 1, 1, 1, 1, 0, 0}, Chance: "1/10"})
	c.Ops = append(c.Ops, api.Op{Kind: api.Measure, Q: 10, Bit: 10})
	tooMany(t, "2^11 tapes of 12 qubits", c)
}

// However the branches are followed, the answer is the same.
func TestBranchesComeInOneOrder(t *testing.T) {
	c := noise8(t)
	first, want := chances(t, c, 0), reduced(t, c, 0, 1, 3)
	if len(first) < 100 {
		t.Errorf("only %d tapes", len(first))
	}
	for range 20 {
		equal(t, "Chances", chances(t, c, 0), first)
		equal(t, "Reduced", reduced(t, c, 0, 1, 3), want)
	}
	if !slices.IsSortedFunc(first, func(a, b api.Branch) int { return slices.Compare(a.Tape, b.Tape) }) {
		t.Errorf("not in order: %s", short(first))
	}
}

// noise8 is a circuit with many tapes, of unlike lengths.
func noise8(t *testing.T) api.Circuit {
	return repeated(t, 4, "qubits 4 bits 3", "h 0", "p 3 1 on 0", "h 1", "measure 0 to 0", "h 2 on 1", "reset 1 if 0", "h 3 if !1", "measure 2 to 1 if !0", "x 1 on 3", "measure 3 to 2 if 1")
}
