package code_test

import (
	"fmt"
	"slices"
	"strings"
	"testing"

	"qloom/api"
	"qloom/code"
	"qloom/tableau"
)

// none is the fault of a call that has none.
var none = api.Fault{}

func fault(code, at int) api.Fault { return api.Fault{Code: code, At: at} }

// equal holds two things against each other as they are told: a list without
// elements is the same, be it nil or empty.
func equal(t *testing.T, what string, got, want any) {
	t.Helper()
	if g, w := fmt.Sprintf("%+v", got), fmt.Sprintf("%+v", want); g != w {
		t.Errorf("%s: %s, want %s", short(what), short(g), short(w))
	}
}

// short is what is told of a thing that may be long.
func short(thing any) string {
	s := fmt.Sprint(thing)
	return fmt.Sprintf("%q", s[:min(len(s), 400)])
}

// of is a code of so many qubits, of its generators with blanks between.
func of(qubits int, gens string) api.Code {
	return api.Code{N: qubits, Gens: strings.Fields(gens)}
}

// Codes that are known: of five, seven and nine qubits, which mend every error on one;
// of four, which only shows it; of eight, with three qubits encoded.
var (
	five  = of(5, "+XZZXI +IXZZX +XIXZZ +ZXIXZ")
	seven = of(7, "+IIIXXXX +IXXIIXX +XIXIXIX +IIIZZZZ +IZZIIZZ +ZIZIZIZ")
	nine  = of(9, "+ZZIIIIIII +IZZIIIIII +IIIZZIIII +IIIIZZIII +IIIIIIZZI +IIIIIIIZZ +XXXXXXIII +IIIXXXXXX")
	four  = of(4, "+XXXX +ZZZZ")
	eight = of(8, "+XXXXXXXX +ZZZZZZZZ +IXIXYZYZ +IXZYIXZY +IYXZXZIY")
)

// known are these codes, some with other signs, and some that are as small as can be.
func known() []api.Code {
	return []api.Code{
		five, seven, nine, four, eight,
		of(5, "-XZZXI +IXZZX -XIXZZ -ZXIXZ"), of(4, "-XXXX -ZZZZ"), of(4, "+YYYY -XXXX"),
		of(3, "+ZZI +IZZ"), of(3, "-ZZI +IZZ"), of(3, "+XXI -IXX"), of(3, ""), of(2, "-YY"), of(2, "+XX +ZZ"), of(2, "-XX -ZZ"),
		of(1, ""), of(1, "+X"), of(1, "-X"), of(1, "+Y"), of(1, "-Y"), of(1, "+Z"), of(1, "-Z"),
	}
}

// syndrome is Syndrome's where nothing is refused.
func syndrome(t *testing.T, c api.Code, pauli string) []int {
	t.Helper()
	out, f := code.Syndrome(c, pauli)
	if f != none {
		t.Fatalf("Syndrome of %s by %s: %v", pauli, short(c), f)
	}
	return out
}

// distance is Distance's where nothing is refused.
func distance(t *testing.T, c api.Code) int {
	t.Helper()
	out, f := code.Distance(c)
	if f != none {
		t.Fatalf("Distance of %s: %v", short(c), f)
	}
	return out
}

// decode is Decode's error where nothing is refused.
func decode(t *testing.T, c api.Code, syndrome []int) string {
	t.Helper()
	out, f := code.Decode(c, syndrome)
	if f != none {
		t.Fatalf("Decode of %v by %s: %v", syndrome, short(c), f)
	}
	return out
}

// encoder is Encoder's circuit where nothing is refused.
func encoder(t *testing.T, c api.Code) api.Circuit {
	t.Helper()
	out, f := code.Encoder(c)
	if f != none {
		t.Fatalf("Encoder of %s: %v", short(c), f)
	}
	return out
}

// measurer is Measurer's circuit where nothing is refused.
func measurer(t *testing.T, c api.Code) api.Circuit {
	t.Helper()
	out, f := code.Measurer(c)
	if f != none {
		t.Fatalf("Measurer of %s: %v", short(c), f)
	}
	return out
}

// fails is Fails's chance where nothing is refused.
func fails(t *testing.T, c api.Code, chance string) string {
	t.Helper()
	out, f := code.Fails(c, chance)
	if f != none {
		t.Fatalf("Fails of %s with %s: %v", short(c), short(chance), f)
	}
	return out
}

// patch is Patch's code where nothing is refused.
func patch(t *testing.T, rows, cols int) api.Code {
	t.Helper()
	out, f := code.Patch(rows, cols)
	if f != none {
		t.Fatalf("Patch of %d and %d: %v", rows, cols, f)
	}
	return out
}

// copyOf has a list of its own.
func copyOf(c api.Code) api.Code {
	c.Gens = slices.Clone(c.Gens)
	return c
}

// bits are so many numbers, 0 or 1: those of n, the lowest first.
func bits(n, length int) []int {
	out := make([]int, length)
	for i := range out {
		out[i] = n >> i & 1
	}
	return out
}

// noise is a row of numbers that looks without order, and is the same each time.
type noise uint64

func (n *noise) below(bound int) int {
	*n = *n*6364136223846793005 + 1442695040888963407
	return int(uint64(*n)>>33) % bound
}

// pauli is a text of a Pauli.
func (n *noise) pauli(qubits int) string {
	text := []byte{"+-"[n.below(2)]}
	for range qubits {
		text = append(text, "IXYZ"[n.below(4)])
	}
	return string(text)
}

// gates is a circuit of stabilizer operations that are gates.
func (n *noise) gates(qubits, ops int) api.Circuit {
	c := api.Circuit{Qubits: qubits}
	for range ops {
		q := n.below(qubits)
		switch other := n.below(qubits); {
		case other != q:
			c.Ops = append(c.Ops, api.Op{Kind: api.X, Q: q, Ctl: []int{other}})
		case n.below(2) == 0:
			c.Ops = append(c.Ops, api.Op{Kind: api.H, Q: q})
		default:
			c.Ops = append(c.Ops, api.Op{Kind: api.P, K: 4, Q: q})
		}
		if n.below(2) == 0 {
			c.Ops = append(c.Ops, api.Op{Kind: api.H, Q: n.below(qubits)})
		}
	}
	return c
}

// code is one of so many qubits and generators: what gates make of Zs, which commute
// and don't hang on each other.
func (n *noise) code(qubits, gens int) api.Code {
	c := api.Code{N: qubits}
	made := n.gates(qubits, n.below(6*qubits))
	for i := range gens {
		z := "+-"[n.below(2):][:1] + strings.Repeat("I", i) + "Z" + strings.Repeat("I", qubits-i-1)
		gen, _ := tableau.Image(made, z)
		c.Gens = append(c.Gens, gen)
	}
	return c
}

// some is a code of at most so many qubits, with any number of generators that may be.
func (n *noise) some(most int) api.Code {
	qubits := 1 + n.below(most)
	return n.code(qubits, n.below(qubits+1))
}

// twisted is a code with its qubits in another order, other letters at each of them, and
// other signs: weights, and what commutes, stay.
func (n *noise) twisted(c api.Code) api.Code {
	out := api.Code{N: c.N}
	order, letters := make([]int, c.N), make([]string, c.N)
	for i := range order {
		j := n.below(i + 1)
		order[i], order[j] = order[j], i
		letters[i] = []string{"XYZ", "XZY", "YXZ", "YZX", "ZXY", "ZYX"}[n.below(6)]
	}
	for _, gen := range c.Gens {
		text := []byte{"+-"[n.below(2)]}
		for i, from := range order {
			letter := gen[1+from]
			if letter != 'I' {
				letter = letters[i][letter-'X']
			}
			text = append(text, letter)
		}
		out.Gens = append(out.Gens, string(text))
	}
	return out
}
