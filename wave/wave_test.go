package wave_test

import (
	"fmt"
	"slices"
	"testing"

	"qloom/api"
	"qloom/ring"
	"qloom/wave"
)

const qubits = 3

// mixed is a wave of three qubits whose amplitudes are all unlike, and not 0 but for
// some, if it is one with gaps.
func mixed(gaps bool) wave.Wave {
	w := wave.Basis(qubits, 5)
	for i := range 14 {
		w.Do(api.Op{Kind: api.H, Q: i % qubits})
		w.Do(api.Op{Kind: api.P, K: 1 + i%7, Q: (i + i/3) % qubits})
		w.Do(api.Op{Kind: api.X, Q: (i + 1) % qubits, Ctl: []int{(i + 2) % qubits}})
	}
	if gaps {
		w[0], w[3], w[6] = nil, nil, nil
	}
	return w
}

// numbers are the amplitudes of a wave.
func numbers(w wave.Wave) []ring.Num {
	out := make([]ring.Num, len(w))
	for x, amplitude := range w {
		if amplitude != nil {
			out[x] = *amplitude
		}
	}
	return out
}

// texts are numbers as they are written.
func texts(list []ring.Num) []string {
	var out []string
	for _, one := range list {
		out = append(out, one.Text())
	}
	return out
}

// isOne: is the qubit 1 in a basis state?
func isOne(x, q int) bool { return x>>q&1 == 1 }

// gate is what a gate makes of amplitudes, by the words of the document.
func gate(was []ring.Num, op api.Op) []ring.Num {
	out := slices.Clone(was)
	for x := range was {
		if slices.ContainsFunc(op.Ctl, func(c int) bool { return !isOne(x, c) }) {
			continue
		}
		other := was[x^1<<op.Q]
		switch {
		case op.Kind == api.Phase, op.Kind == api.P && isOne(x, op.Q):
			out[x] = was[x].Turn(op.K)
		case op.Kind == api.X:
			out[x] = other
		case op.Kind == api.H && isOne(x, op.Q):
			out[x] = other.Sub(was[x]).Half()
		case op.Kind == api.H:
			out[x] = was[x].Add(other).Half()
		}
	}
	return out
}

// same holds a wave to amplitudes; one that is 0 must be nil.
func same(t *testing.T, what string, w wave.Wave, want []ring.Num) {
	t.Helper()
	if got := fmt.Sprint(w.Texts()); got != fmt.Sprint(texts(want)) {
		t.Errorf("%s: %s, want %v", what, got, texts(want))
	}
	for x := range w {
		if (w[x] == nil) != want[x].Zero() {
			t.Errorf("%s: %d is kept as %v", what, x, w[x])
		}
	}
}

func TestBasis(t *testing.T) {
	for x := range 1 << qubits {
		want := make([]ring.Num, 1<<qubits)
		want[x] = ring.Root(0)
		same(t, "a basis state", wave.Basis(qubits, x), want)
	}
}

func TestDo(t *testing.T) {
	for _, gaps := range []bool{false, true} {
		for _, kind := range []int{api.Phase, api.X, api.H, api.P} {
			for q := range qubits {
				a, b := (q+1)%qubits, (q+2)%qubits
				for _, controls := range [][]int{nil, {a}, {b}, {a, b}, {b, a}} {
					op := api.Op{Kind: kind, K: 5, Q: q, Ctl: controls, If: []int{1}}
					if kind == api.Phase {
						op.Ctl = nil
					}
					w := mixed(gaps)
					was := numbers(w)
					w.Do(op)
					same(t, fmt.Sprint(op), w, gate(was, op))
				}
			}
		}
	}
}

func TestDoKeepsNoughtsAsNil(t *testing.T) {
	w := wave.Basis(1, 1)
	w.Do(api.Op{Kind: api.H})
	w.Do(api.Op{Kind: api.H})
	same(t, "done twice", w, []ring.Num{{}, ring.Root(0)})
}

func TestTake(t *testing.T) {
	for _, gaps := range []bool{false, true} {
		for q := range qubits {
			for outcome := range 2 {
				want := make([]ring.Num, 1<<qubits)
				brought := make([]ring.Num, 1<<qubits)
				for x, amplitude := range numbers(mixed(gaps)) {
					if isOne(x, q) == (outcome == 1) {
						want[x] = amplitude
						brought[x&^(1<<q)] = amplitude
					}
				}
				measured, reset := mixed(gaps), mixed(gaps)
				measured.Take(api.Op{Kind: api.Measure, Q: q, Bit: 1}, outcome)
				same(t, "measured", measured, want)
				reset.Take(api.Op{Kind: api.Reset, Q: q}, outcome)
				same(t, "reset", reset, brought)
			}
		}
	}
}

func TestCan(t *testing.T) {
	for x := range 1 << qubits {
		for q := range qubits {
			w := wave.Basis(qubits, x)
			if w.Can(q, 1) != isOne(x, q) || w.Can(q, 0) == isOne(x, q) {
				t.Errorf("what can come of qubit %d of %d: %v, %v", q, x, w.Can(q, 0), w.Can(q, 1))
			}
			if full := mixed(true); !full.Can(q, 0) || !full.Can(q, 1) {
				t.Errorf("not both can come of qubit %d", q)
			}
			w.Take(api.Op{Kind: api.Measure, Q: q}, 1-x>>q&1)
			if w.Can(q, 0) || w.Can(q, 1) {
				t.Errorf("of nothing something can come")
			}
		}
	}
}

func TestNorm(t *testing.T) {
	if got := mixed(false).Norm().Text(); got != "1" {
		t.Errorf("the norm of a whole wave: %s", got)
	}
	want := ring.Num{}
	for _, amplitude := range numbers(mixed(true)) {
		want = want.Add(amplitude.Norm())
	}
	if got := mixed(true).Norm(); !got.Same(want) || want.Same(ring.Root(0)) {
		t.Errorf("the norm of a wave with gaps: %s, want %s", got.Text(), want.Text())
	}
}

// States are those in which ones are 1 and noughts 0, in their order, and no more than are asked for.
func TestStates(t *testing.T) {
	w := wave.Basis(qubits, 0)
	for ones := range 1 << qubits {
		for noughts := range 1 << qubits {
			if ones&noughts != 0 {
				continue
			}
			var got, want []int
			for x := range w.States(ones, noughts) {
				got = append(got, x)
			}
			for x := range len(w) {
				if x&ones == ones && x&noughts == 0 {
					want = append(want, x)
				}
			}
			if !slices.Equal(got, want) {
				t.Errorf("states with %b and without %b: %v, want %v", ones, noughts, got, want)
			}
			for x := range w.States(ones, noughts) {
				if x != want[0] {
					t.Errorf("the first state with %b and without %b: %d", ones, noughts, x)
				}
				break
			}
		}
	}
	if got := []int{wave.Set(), wave.Set(2), wave.Set(0, 3)}; !slices.Equal(got, []int{0, 4, 9}) {
		t.Errorf("sets: %v", got)
	}
}

// A copy goes on by itself, though it shares the numbers.
func TestCopies(t *testing.T) {
	w := mixed(false)
	was := numbers(w)
	other := slices.Clone(w)
	for _, kind := range []int{api.Phase, api.X, api.H, api.P} {
		other.Do(api.Op{Kind: kind, K: 3, Q: 1})
	}
	other.Take(api.Op{Kind: api.Reset, Q: 2}, 1)
	same(t, "what was copied", w, was)
}

// The wave that all is tried on has no two amplitudes alike, so that none can be taken for another.
func TestMixed(t *testing.T) {
	list := texts(numbers(mixed(false)))
	slices.Sort(list)
	if len(slices.Compact(list)) != 1<<qubits || slices.Contains(list, "0") {
		t.Errorf("alike: %v", list)
	}
}
