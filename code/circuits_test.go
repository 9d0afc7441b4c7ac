package code_test

import (
	"fmt"
	"slices"
	"strings"
	"testing"

	"qloom/api"
	"qloom/circ"
	"qloom/code"
	"qloom/state"
	"qloom/tableau"
)

// zAt is the Pauli with Z at a qubit, and I elsewhere.
func zAt(qubits, q int) string {
	return "+" + strings.Repeat("I", q) + "Z" + strings.Repeat("I", qubits-q-1)
}

// encodes holds Encoder's circuit to its form and to its images.
func encodes(t *testing.T, c api.Code) api.Circuit {
	t.Helper()
	u := encoder(t, c)
	equal(t, "qubits and bits of the encoder", []int{u.Qubits, u.Bits}, []int{c.N, 0})
	equal(t, "gates alone", circ.Pure(u), none)
	for _, op := range u.Ops {
		equal(t, "a stabilizer operation: "+short(op), isStabilizer(op), true)
	}
	if most := 8 * c.N * (c.N + 1); len(u.Ops) > most {
		t.Errorf("Encoder of %s: %d operations, at most %d may be", short(c), len(u.Ops), most)
	}
	for i, gen := range c.Gens {
		got, f := tableau.Image(u, zAt(c.N, i))
		equal(t, fmt.Sprint("image ", i, " by the encoder of ", c), []any{got, f}, []any{gen, none})
	}
	return u
}

// amps are the amplitudes that operations leave of a basis state, without outcomes.
func amps(t *testing.T, qubits, in int, ops ...[]api.Op) []string {
	t.Helper()
	shot, f := state.Run(api.Circuit{Qubits: qubits, Ops: slices.Concat(ops...)}, in, nil)
	if f != none {
		t.Fatalf("Run: %v", f)
	}
	return shot.Amps
}

// encodesExactly holds Encoder's circuit to what it does: from every basis state a
// generator behind it does what the Z at its qubit does ahead of it; where the first
// qubits are 0, every generator leaves what comes out as it is.
func encodesExactly(t *testing.T, c api.Code) {
	t.Helper()
	u := encodes(t, c)
	for in := range 1 << c.N {
		for i, gen := range c.Gens {
			behind := amps(t, c.N, in, u.Ops, deeds(gen))
			equal(t, "ahead and behind", behind, amps(t, c.N, in, deeds(zAt(c.N, i)), u.Ops))
			if in%(1<<len(c.Gens)) == 0 {
				equal(t, "encoded", behind, amps(t, c.N, in, u.Ops))
			}
		}
	}
}

func TestEncodersOfKnownCodes(t *testing.T) {
	t.Parallel()
	for _, c := range known() {
		encodes(t, c)
		if c.N <= 5 {
			encodesExactly(t, c)
		}
	}
}

// All codes of one qubit, and of two.
func TestEncodersOfAllSmallCodes(t *testing.T) {
	t.Parallel()
	tried := 0
	for qubits := 1; qubits <= 2; qubits++ {
		texts := []string{}
		for _, p := range errorsOf(qubits) {
			texts = append(texts, p, "-"+p[1:])
		}
		for _, a := range texts {
			for _, b := range append(texts, "") {
				c := of(qubits, a+" "+b)
				if checkFault(c) == none {
					tried++
					encodesExactly(t, c)
				}
			}
		}
	}
	equal(t, "codes", tried, 6+30+30*12)
}

// Codes without order, of as many qubits as there may be.
func TestEncodersOfManyCodes(t *testing.T) {
	t.Parallel()
	for i := range 2000 {
		n := noise(i)
		encodes(t, n.some(12))
	}
	for i := range 60 {
		n := noise(i)
		encodesExactly(t, n.some(4))
	}
	for gens := range api.MaxCode + 1 {
		for i := range 20 {
			n := noise(i)
			encodes(t, n.code(api.MaxCode, gens))
		}
	}
}

// Codes with many letters, none of which is a Z, and all with -, want the most gates.
func TestEncodersOfFullCodes(t *testing.T) {
	for qubits := 1; qubits <= api.MaxCode; qubits++ {
		c, back := api.Code{N: qubits}, api.Code{N: qubits}
		for i := range qubits {
			c.Gens = append(c.Gens, "-"+strings.Repeat("Y", qubits-i)+strings.Repeat("I", i))
			back.Gens = append(back.Gens, "-"+strings.Repeat("I", qubits-i-1)+strings.Repeat("Y", i+1))
		}
		encodes(t, c)
		encodes(t, back)
		for i := range c.Gens {
			encodes(t, api.Code{N: qubits, Gens: c.Gens[i:]})
			encodes(t, api.Code{N: qubits, Gens: back.Gens[:i]})
		}
	}
}

// measures holds Measurer's circuit to its form.
func measures(t *testing.T, c api.Code) api.Circuit {
	t.Helper()
	m := measurer(t, c)
	equal(t, "qubits and bits of the measurer", []int{m.Qubits, m.Bits}, []int{c.N + 1, len(c.Gens)})
	equal(t, "a circuit", circ.Check(m), none)
	var got, want []api.Op
	for _, op := range m.Ops {
		equal(t, "a stabilizer operation: "+short(op), isStabilizer(op), true)
		equal(t, "conditions", len(op.If), 0)
		if op.Kind == api.Measure || op.Kind == api.Reset {
			got = append(got, op)
		}
	}
	for i := range c.Gens {
		want = append(want, api.Op{Kind: api.Measure, Q: c.N, Bit: i}, api.Op{Kind: api.Reset, Q: c.N})
	}
	equal(t, "measurements and resets", got, want)
	return m
}

// measuresExactly holds Measurer's circuit to what it does behind the encoder and an
// error: the bits are the error's syndrome, with chance 1; the amplitudes are as they
// were, those where the spare qubit is 1 being 0.
func measuresExactly(t *testing.T, c api.Code, in int, pauli string) {
	t.Helper()
	ahead := slices.Concat(encoder(t, c).Ops, deeds(pauli))
	m := measures(t, c)
	all := api.Circuit{Qubits: m.Qubits, Bits: m.Bits, Ops: slices.Concat(ahead, m.Ops)}
	what := fmt.Sprint(pauli, " measured by ", c)
	branches, f := state.Chances(all, in)
	if f != none || len(branches) != 1 {
		t.Fatalf("%s: %v, %d branches", short(what), f, len(branches))
	}
	equal(t, what, []any{branches[0].Bits, branches[0].Chance}, []any{syndromeOf(c, pauli), "1"})
	shot, f := state.Run(all, in, branches[0].Tape)
	equal(t, what, []any{shot.Amps, f}, []any{amps(t, m.Qubits, in, ahead), none})
	for x, amp := range shot.Amps {
		if x>>c.N&1 == 1 {
			equal(t, "the spare qubit", amp, "0")
		}
	}
}

// Each error of small codes, from each state that is to be encoded.
func TestMeasurersOfSmallCodes(t *testing.T) {
	t.Parallel()
	codes := known()
	for i := range 30 {
		n := noise(i)
		codes = append(codes, n.some(3))
	}
	for _, c := range codes {
		if c.N > 3 {
			continue
		}
		for _, p := range errorsOf(c.N) {
			for in := 0; in < 1<<c.N; in += 1 << len(c.Gens) {
				measuresExactly(t, c, in, p)
			}
		}
	}
}

func TestMeasurersOfGreaterCodes(t *testing.T) {
	t.Parallel()
	for _, p := range append(single(5), "-YXZIY", "-IIIII", "+XXXXX") {
		measuresExactly(t, five, 0, p)
		measuresExactly(t, of(5, "-XZZXI +IXZZX -XIXZZ -ZXIXZ"), 16, p)
	}
	measuresExactly(t, seven, 64, "+IXIIYIZ")
	for i := range 20 {
		n := noise(i)
		c := n.code(4+i%2, n.below(5))
		measuresExactly(t, c, n.below(1<<(c.N-len(c.Gens)))<<len(c.Gens), n.pauli(c.N))
	}
}

// freely are gates without order on the qubits that are free to be encoded.
func (n *noise) freely(c api.Code) []api.Op {
	free := c.N - len(c.Gens)
	if free == 0 {
		return nil
	}
	to := make([]int, free)
	for i := range to {
		to[i] = len(c.Gens) + i
	}
	moved, _ := circ.Move(n.gates(free, 4*free), to, c.N)
	return moved.Ops
}

// measuresAll holds Measurer's circuit to what it does, by stabilizers: behind any
// state that is encoded, and an error, the bits are the syndrome, no other outcome of
// any measurement or reset can come, and the stabilizers are what they were.
func measuresAll(t *testing.T, c api.Code, n *noise) {
	t.Helper()
	pauli := n.pauli(c.N)
	want := syndromeOf(c, pauli)
	m := measures(t, c)
	ahead := api.Circuit{Qubits: m.Qubits, Bits: m.Bits, Ops: slices.Concat(n.freely(c), encodes(t, c).Ops, deeds(pauli))}
	all := api.Circuit{Qubits: m.Qubits, Bits: m.Bits, Ops: slices.Concat(ahead.Ops, m.Ops)}
	var tape []int
	for _, bit := range want {
		tape = append(tape, bit, bit)
	}
	what := fmt.Sprint(pauli, " measured by ", c)
	before, _, _, f := tableau.Run(ahead, 0, nil)
	equal(t, what, f, none)
	after, got, used, f := tableau.Run(all, 0, tape)
	equal(t, what, []any{after, got, used, f}, []any{before, want, len(tape), none})
	meets := 0
	for at, op := range all.Ops {
		if op.Kind == api.Measure || op.Kind == api.Reset {
			other := slices.Clone(tape)
			other[meets] ^= 1
			_, _, _, f := tableau.Run(all, 0, other)
			equal(t, what+": another outcome", f, fault(api.ErrOutcome, at))
			meets++
		}
	}
}

func TestMeasurersOfManyCodes(t *testing.T) {
	t.Parallel()
	for i := range 600 {
		n := noise(i)
		measuresAll(t, n.some(11), &n)
	}
	for gens := range 12 {
		for i := range 10 {
			n := noise(i)
			measuresAll(t, n.code(11, gens), &n)
		}
	}
	for i, c := range known() {
		n := noise(i)
		for range 10 {
			measuresAll(t, c, &n)
		}
	}
}

// There is no room for the spare qubit beside twelve.
func TestMeasurersWithoutRoom(t *testing.T) {
	for gens := range 13 {
		n := noise(gens)
		m, f := code.Measurer(n.code(12, gens))
		equal(t, "no room", []any{m, f}, []any{api.Circuit{}, fault(api.ErrRoom, 0)})
		if gens < 12 {
			measures(t, n.code(11, gens))
		}
	}
	refused(t, "Check's fault first", of(12, "+XIIIIIIIIIII -XIIIIIIIIIII"), fault(api.ErrDepend, 1))
}

// Without generators nothing is to be done.
func TestCircuitsWithoutGenerators(t *testing.T) {
	for qubits := 1; qubits <= 11; qubits++ {
		equal(t, "measurer", measures(t, api.Code{N: qubits}), api.Circuit{Qubits: qubits + 1})
		encodes(t, api.Code{N: qubits})
	}
}

// The whole way: what was encoded, had an error on a qubit, was measured and mended, and
// is brought back, is what it was.
func TestEncodedMeasuredMended(t *testing.T) {
	t.Parallel()
	for i, c := range []api.Code{five, seven, nine, eight, of(5, "+XZZXI -IXZZX -XIXZZ +ZXIXZ"), patch(t, 3, 3)} {
		for j, p := range single(c.N) {
			n := noise(i + 10*j)
			u, m := encoder(t, c), measurer(t, c)
			back, _ := circ.Inverse(u)
			marks := syndrome(t, c, p)
			var tape []int
			for _, bit := range marks {
				tape = append(tape, bit, bit)
			}
			start := n.freely(c)
			all := slices.Concat(start, u.Ops, deeds(p), m.Ops, deeds(decode(t, c, marks)), back.Ops)
			want, _, _, f := tableau.Run(api.Circuit{Qubits: c.N + 1, Ops: start}, 0, nil)
			got, _, _, g := tableau.Run(api.Circuit{Qubits: c.N + 1, Bits: m.Bits, Ops: all}, 0, tape)
			equal(t, p+" mended by "+short(c), []any{got, f, g}, []any{want, none, none})
		}
	}
}
