package synth

import (
	"testing"

	"qloom/api"
	"qloom/pauli"
	"qloom/ring"
)

// all are the plain gates that are products of H and S.
func all() []plain {
	found := []plain{idle()}
	seen := map[plain]int{idle(): 1}
	for i := 0; i < len(found); i++ {
		for _, gate := range []plain{fork(), quarter()} {
			if next := found[i].times(gate); seen[next] == 0 {
				seen[next]++
				found = append(found, next)
			}
		}
	}
	return found
}

// The plain gates are a group of 24.
func TestPlainGates(t *testing.T) {
	gates := all()
	if len(gates) != 24 {
		t.Fatalf("%d plain gates, want 24", len(gates))
	}
	known := map[plain]int{}
	for _, a := range gates {
		known[a]++
	}
	for _, a := range gates {
		back := a.undone()
		if a.times(back) != idle() || back.times(a) != idle() {
			t.Errorf("%v is not undone by %v", a, back)
		}
		for _, b := range gates {
			if known[a.times(b)] != 1 {
				t.Errorf("%v times %v is none", a, b)
			}
			for _, c := range gates {
				if a.times(b).times(c) != a.times(b.times(c)) {
					t.Errorf("%v, %v, %v: products hang on brackets", a, b, c)
				}
			}
		}
	}
}

// Products are read as matrices: what stands last is done first.
func TestProductsOfPlainGates(t *testing.T) {
	for _, op := range []api.Op{{Kind: api.X}, {Kind: api.H}, {Kind: api.P, K: 4}, {Kind: api.P, K: 8}, {Kind: api.P, K: 12}, {Kind: api.Phase, K: 1}} {
		gate := pauli.GateOf(op)
		for _, a := range all() {
			if got, want := plainOf(op).times(a), (plain{x: gate(a.x), z: gate(a.z)}); got != want {
				t.Errorf("%v behind %v: %v, want %v", op, a, got, want)
			}
		}
	}
}

// Each plain gate begins just one syllable.
func TestStarts(t *testing.T) {
	counts := map[string]int{}
	for _, a := range all() {
		s := startOf(a)
		counts[s.text]++
		if tail := s.head.undone().times(a); tail.z.X != 0 || tail.z.Z != 1 {
			t.Errorf("%v behind %s: of Z it makes %v", a, s.text, tail.z)
		}
	}
	for _, text := range []string{"T", "HT", "SHT"} {
		if counts[text] != 8 {
			t.Errorf("%d plain gates begin %s, want 8", counts[text], text)
		}
	}
}

// The depth is how often a number was divided by 1 + z^2, the deepest of a root that
// may be read being 24.
func TestDepth(t *testing.T) {
	// One over 1 + z^2 is (z^0 - z^2 + z^4 - z^6)/2, as z^8 is -1.
	divisor, _ := ring.Make([]int{1, 0, -1, 0, 1, 0, -1}, 1)
	for k := 0; k < 16; k += 2 {
		n := ring.Root(k)
		for want := range 40 {
			if got := depth(n); got != want {
				t.Errorf("%s: depth %d, want %d", n.Text(), got, want)
			}
			if (n.Depth() <= mostDepth) != (want <= 2*mostDepth) {
				t.Errorf("%s: depth %d, and %d", n.Text(), n.Depth(), want)
			}
			n = n.Mul(divisor)
		}
	}
	if got := depth(ring.Num{}); got != 0 {
		t.Errorf("depth of 0: %d", got)
	}
}

// Pairs are yielded as long as they are deep: what ranges over them lifts them.
func TestDeepPairs(t *testing.T) {
	rt, minus := ring.Rt(), ring.Rt().Neg()
	w := &way{rows: matrix{{rt, rt}, {rt, minus}}, qubits: 1}
	steps := 0
	for low, high := range w.deepPairs(0) {
		if low != 0 || high != 1 {
			t.Errorf("%d and %d, want 0 and 1", low, high)
		}
		w.lift(0, low, high)
		steps++
	}
	if steps != 1 || len(w.deepest(0)) != 0 || len(w.deepest(1)) != 0 {
		t.Errorf("%d steps, %v", steps, w.rows)
	}
	w = &way{rows: matrix{{rt, rt}, {rt, minus}}, qubits: 1}
	for range w.deepPairs(0) {
		break
	}
	if len(w.ops) != 0 || len(w.deepest(0)) != 2 {
		t.Errorf("ranging alone changes something: %v", w.ops)
	}
}
