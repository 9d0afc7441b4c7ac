package pauli_test

import (
	"strings"
	"testing"

	"qloom/api"
	"qloom/pauli"
)

// texts are all Paulis of so many qubits, as they are written.
func texts(qubits int) []string {
	out := []string{"+", "-"}
	for range qubits {
		var longer []string
		for _, text := range out {
			for _, letter := range "IXYZ" {
				longer = append(longer, text+string(letter))
			}
		}
		out = longer
	}
	return out
}

// parsed is a Pauli of a text that is one.
func parsed(t *testing.T, text string) pauli.Pauli {
	t.Helper()
	p, ok := pauli.Parse(text, len(text)-1)
	if !ok {
		t.Fatalf("Parse of %q", text)
	}
	return p
}

// What is written is what was read, and no two texts are one Pauli.
func TestTexts(t *testing.T) {
	for qubits := range 5 {
		seen := map[pauli.Pauli]string{}
		for _, text := range texts(qubits) {
			p := parsed(t, text)
			if got := p.Text(qubits); got != text {
				t.Errorf("%q is written %q", text, got)
			}
			if seen[p] != "" {
				t.Errorf("%q and %q are one", text, seen[p])
			}
			seen[p] = text
		}
	}
	long := "-" + strings.Repeat("XYZI", 3)
	if got := parsed(t, long).Text(12); got != long {
		t.Errorf("%q is written %q", long, got)
	}
	if got, want := parsed(t, "-IXYZ"), (pauli.Pauli{X: 6, Z: 12, Minus: true}); got != want {
		t.Errorf("%v, want %v", got, want)
	}
}

func TestTextsThatAreNone(t *testing.T) {
	for _, text := range []string{"", "+", "XX", "+X", "+XXX", "XXX", "+Xx", "+QX", "*XX", "+X ", "+X\n", "++X", "+é", "−X"} {
		if p, ok := pauli.Parse(text, 2); ok || p != (pauli.Pauli{}) {
			t.Errorf("Parse of %q: %v", text, p)
		}
	}
}

// product multiplies texts letter by letter: what stands there, and by how many
// quarters it is turned.
func product(a, b string) (string, int) {
	quarters := 0
	for _, sign := range []byte{a[0], b[0]} {
		if sign == '-' {
			quarters += 2
		}
	}
	var out []byte
	for i := 1; i < len(a); i++ {
		switch pair := a[i:i+1] + b[i:i+1]; {
		case a[i] == 'I':
			out = append(out, b[i])
		case b[i] == 'I':
			out = append(out, a[i])
		case a[i] == b[i]:
			out = append(out, 'I')
		case strings.Contains("XYZX", pair):
			out, quarters = append(out, third(a[i], b[i])), quarters+1
		default:
			out, quarters = append(out, third(a[i], b[i])), quarters+3
		}
	}
	return string(out), quarters % 4
}

// third is the letter beside two others.
func third(a, b byte) byte { return 'X' ^ 'Y' ^ 'Z' ^ a ^ b }

// All pairs of two qubits: those that commute, and those that don't, by a quarter more.
func TestProducts(t *testing.T) {
	pairs := 0
	for _, a := range texts(2) {
		for _, b := range texts(2) {
			letters, quarters := product(a, b)
			what, times := "times", pauli.Pauli.Times
			if quarters%2 == 1 {
				what, times = "turned, times", pauli.Pauli.TimesTurned
				quarters = (quarters + 1) % 4
			} else {
				pairs++
			}
			want := "+-"[quarters/2:quarters/2+1] + letters
			if got := times(parsed(t, a), parsed(t, b)).Text(2); got != want {
				t.Errorf("%s %s %s: %s, want %s", a, what, b, got, want)
			}
		}
	}
	if pairs != 544 {
		t.Errorf("%d pairs commute, want 544", pairs)
	}
	if got := parsed(t, "+X").TimesTurned(parsed(t, "+Z")).Text(1); got != "+Y" {
		t.Errorf("X turned, times Z: %s, want +Y", got)
	}
}

// All pairs of two qubits: which commute, and their products but for what these are
// turned by.
func TestLettersOfProducts(t *testing.T) {
	for _, a := range texts(2) {
		for _, b := range texts(2) {
			letters, quarters := product(a, b)
			p, q := parsed(t, a), parsed(t, b)
			if got := p.Letters(q).Text(2); got != "+"+letters {
				t.Errorf("letters of %s times %s: %s, want +%s", a, b, got, letters)
			}
			// In the opposite order a product is turned by as many quarters the other way.
			if got, want := p.Commutes(q), quarters%2 == 0; got != want {
				t.Errorf("%s and %s commute: %v, want %v", a, b, got, want)
			}
		}
	}
}

func TestWeights(t *testing.T) {
	for text, want := range map[string]int{"+": 0, "-I": 0, "+X": 1, "-Y": 1, "+Z": 1, "+IXIYIZ": 3, "-XYZXYZXYZXYZ": 12, "+IIIIIIIIIIIZ": 1} {
		if got := parsed(t, text).Weight(); got != want {
			t.Errorf("weight of %s: %d, want %d", text, got, want)
		}
	}
}

// What gates make of letters.
func TestGates(t *testing.T) {
	on := []int{0}
	for _, tried := range []struct {
		op   api.Op
		want string
	}{
		{api.Op{Kind: api.Phase, K: 5}, "+XI +YI +ZI +IX +IY +IZ"},
		{api.Op{Kind: api.X, Q: 1}, "+XI +YI +ZI +IX -IY -IZ"},
		{api.Op{Kind: api.H, Q: 0}, "+ZI -YI +XI +IX +IY +IZ"},
		{api.Op{Kind: api.P, K: 0, Q: 1}, "+XI +YI +ZI +IX +IY +IZ"},
		{api.Op{Kind: api.P, K: 4, Q: 1}, "+XI +YI +ZI +IY -IX +IZ"},
		{api.Op{Kind: api.P, K: 8, Q: 1}, "+XI +YI +ZI -IX -IY +IZ"},
		{api.Op{Kind: api.P, K: 12, Q: 1}, "+XI +YI +ZI -IY +IX +IZ"},
		{api.Op{Kind: api.X, Q: 1, Ctl: on}, "+XX +YX +ZI +IX +ZY +ZZ"},
		{api.Op{Kind: api.P, K: 0, Q: 1, Ctl: on}, "+XI +YI +ZI +IX +IY +IZ"},
		{api.Op{Kind: api.P, K: 8, Q: 1, Ctl: on}, "+XZ +YZ +ZI +ZX +ZY +IZ"},
	} {
		var got []string
		for _, text := range strings.Fields("+XI +YI +ZI +IX +IY +IZ") {
			got = append(got, pauli.GateOf(tried.op)(parsed(t, text)).Text(2))
		}
		if strings.Join(got, " ") != tried.want {
			t.Errorf("%v: %v, want %v", tried.op, got, tried.want)
		}
		keepsProducts(t, tried.op)
	}
}

// keepsProducts holds a gate to making products of products.
func keepsProducts(t *testing.T, op api.Op) {
	t.Helper()
	gate := pauli.GateOf(op)
	for _, a := range texts(2) {
		for _, b := range texts(2) {
			if _, quarters := product(a, b); quarters%2 == 1 {
				continue
			}
			p, q := parsed(t, a), parsed(t, b)
			if gate(p.Times(q)) != gate(p).Times(gate(q)) {
				t.Errorf("%v: of %s times %s something else", op, a, b)
			}
		}
	}
}
