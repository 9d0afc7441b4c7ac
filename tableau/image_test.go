package tableau_test

import (
	"fmt"
	"slices"
	"strings"
	"testing"

	"qloom/api"
	"qloom/state"
	"qloom/tableau"
)

func TestExamplesOfImage(t *testing.T) {
	equal(t, "an X with a control", image(t, circuit(t, "qubits 2 bits 0", "x 1 on 0"), "+XI"), "+XX")
	equal(t, "a quarter", image(t, circuit(t, "qubits 1 bits 0", "p 4 0"), "+Y"), "-X")
}

// normalGates are all stabilizer operations of so many qubits that are gates.
func normalGates(qubits int) []api.Op {
	var out []api.Op
	for k := range 16 {
		out = append(out, api.Op{Kind: api.Phase, K: k})
	}
	for q := range qubits {
		out = append(out, api.Op{Kind: api.X, Q: q}, api.Op{Kind: api.H, Q: q})
		for k := 0; k < 16; k += 4 {
			out = append(out, api.Op{Kind: api.P, K: k, Q: q})
		}
		for control := range qubits {
			if control != q {
				on := []int{control}
				out = append(out, api.Op{Kind: api.X, Q: q, Ctl: on}, api.Op{Kind: api.P, K: 0, Q: q, Ctl: on}, api.Op{Kind: api.P, K: 8, Q: q, Ctl: on})
			}
		}
	}
	return out
}

// Each gate, of each Pauli.
func TestImagesByOneGate(t *testing.T) {
	t.Parallel()
	for qubits := 1; qubits <= 3; qubits++ {
		for _, op := range normalGates(qubits) {
			for _, p := range paulis(qubits) {
				images(t, api.Circuit{Qubits: qubits, Ops: []api.Op{op}}, p)
			}
		}
	}
}

// Circuits without order, of each Pauli.
func TestImagesByManyCircuits(t *testing.T) {
	t.Parallel()
	for i := range 60 {
		n := noise(i)
		c := n.gates(1+i%3, n.below(20))
		for _, p := range paulis(c.Qubits) {
			images(t, c, p)
		}
	}
	for i := range 20 {
		n := noise(i)
		c := n.gates(4+i%3, 30)
		images(t, c, n.pauli(c.Qubits))
	}
}

// Of as many qubits as there may be: from all basis states modulo a prime, and from
// some of them exactly.
func TestImagesOfTwelveQubits(t *testing.T) {
	t.Parallel()
	for i := range 20 {
		n := noise(i)
		c := n.gates(7+i%6, 200)
		imagesModulo(t, c, n.pauli(c.Qubits))
	}
	n := noise(3)
	c := n.gates(12, 40)
	p := n.pauli(12)
	in := n.below(1 << 12)
	ahead, f := state.Run(then(t, deeds(p), c), in, nil)
	behind, g := state.Run(then(t, c, deeds(image(t, c, p))), in, nil)
	if f != none || g != none || !slices.Equal(ahead.Amps, behind.Amps) {
		t.Errorf("Image of %s by %s: %s", p, short(c), image(t, c, p))
	}
}

// Without operations each Pauli stays.
func TestImagesByNoOperations(t *testing.T) {
	for qubits := 1; qubits <= api.MaxQubits; qubits++ {
		n := noise(qubits)
		for _, p := range []string{n.pauli(qubits), n.pauli(qubits), "+" + strings.Repeat("Y", qubits), "-" + strings.Repeat("I", qubits)} {
			equal(t, p, image(t, api.Circuit{Qubits: qubits, Bits: qubits}, p), p)
		}
	}
}

// As many operations as there may be: what undoes them brings each Pauli back, and the
// image by two circuits is the image by the second of that by the first.
func TestLongImages(t *testing.T) {
	for i := range 20 {
		n := noise(i)
		a, b := n.gates(12, 2048), n.gates(12, 2048)
		p := n.pauli(12)
		equal(t, "undone", image(t, then(t, a, inverse(t, a)), p), p)
		equal(t, "one after the other", image(t, then(t, a, b), p), image(t, b, image(t, a, p)))
	}
}

// Texts that are no Paulis of two qubits.
func TestTextsThatAreNoPaulis(t *testing.T) {
	c := circuit(t, "qubits 2 bits 0", "h 0", "x 1 on 0")
	for _, text := range []string{
		"", "+", "-", "X", "XX", "XXX", "+X", "-Z", "+XXX", "-IIII", "++X", "+X+", "XX+", "+xX", "+Xz", "+XQ", "+QX", "*XX", " XX", "+X ",
		" +XX", "+XX ", "+XX\n", "\n+XX", "+X\n", "+X\x00", "\x00XX", "+é", "+Xé", "−XX", "+ХХ", "+XX\x00", "+ XX", "1XX", "+11", "+HH", "+AA", "+JK", "+WX",
		"+XX+XX", "iXX", "-iXX", "+IXY", "±XX", strings.Repeat("X", 1<<20), "+" + strings.Repeat("X", 1<<20),
	} {
		out, f := tableau.Image(c, text)
		equal(t, fmt.Sprintf("%.20q", text), []any{out, f}, []any{"", fault(api.ErrPauli, 0)})
	}
}

// Of all texts of few bytes: those that are Paulis, and no others, have images.
func TestAllShortTexts(t *testing.T) {
	for a := range 256 {
		for b := range 256 {
			text := string([]byte{byte(a), byte(b)})
			_, f := tableau.Image(api.Circuit{Qubits: 1}, text)
			if (f == none) != isPauli(text, 1) || f != none && f != fault(api.ErrPauli, 0) {
				t.Errorf("Image of %q: %v", text, f)
			}
		}
	}
	for qubits := 1; qubits <= 4; qubits++ {
		for other := 1; other <= 4; other++ {
			n := noise(other)
			_, f := tableau.Image(api.Circuit{Qubits: qubits}, n.pauli(other))
			equal(t, "a Pauli of other qubits", f == none, qubits == other)
		}
	}
}
