package synth_test

import (
	"fmt"
	"slices"
	"strings"
	"testing"

	"qloom/api"
	"qloom/circ"
	"qloom/ring"
	"qloom/tableau"
)

// What the document says, written out once more: words as circuits, the plain ones,
// which faults the calls have; and what circuits of one qubit do.

// spelled is the circuit of a word of the letters H, S and T: what stands last in the
// word is done first.
func spelled(word string) api.Circuit {
	c := api.Circuit{Qubits: 1}
	for _, letter := range word {
		op := map[rune]api.Op{'H': {Kind: api.H}, 'S': {Kind: api.P, K: 4}, 'T': {Kind: api.P, K: 2}}[letter]
		c.Ops = append(c.Ops, op)
	}
	slices.Reverse(c.Ops)
	return c
}

// images is what a plain circuit makes of X and of Z.
func images(t *testing.T, c api.Circuit) string {
	t.Helper()
	x, f := tableau.Image(c, "+X")
	z, g := tableau.Image(c, "+Z")
	if f != none || g != none {
		t.Fatalf("Image by %s: %v, %v", short(c), f, g)
	}
	return x + " " + z
}

// plains are the plain ones as words of H and S, by what they make of X and of Z.
func plains(t *testing.T) map[string]string {
	t.Helper()
	out := map[string]string{}
	for words := []string{""}; len(words) > 0; words = words[1:] {
		word := words[0]
		known := images(t, spelled(word))
		if _, ok := out[known]; !ok {
			out[known] = word
			words = append(words, word+"H", word+"S")
		}
	}
	return out
}

// formed holds a normal form to its form: perhaps T, any number of HT and SHT, two texts
// behind them. It is the form's circuit, of which the plain one is one of plains.
func formed(t *testing.T, plains map[string]string, form []string) api.Circuit {
	t.Helper()
	if len(form) < 2 {
		t.Fatalf("%v is no normal form", form)
	}
	syllables := form[:len(form)-2]
	for i, s := range syllables {
		if s != "HT" && s != "SHT" && (s != "T" || i > 0) {
			t.Fatalf("%v: %q is no syllable there", short(form), s)
		}
	}
	plain, ok := plains[strings.Join(form[len(form)-2:], " ")]
	if !ok {
		t.Fatalf("%v: %v is no plain one", short(form), form[len(form)-2:])
	}
	return spelled(strings.Join(syllables, "") + plain)
}

// eighths is how many turns by an odd number of eighths a circuit has.
func eighths(c api.Circuit) int {
	out := 0
	for _, op := range c.Ops {
		if op.Kind == api.P && slices.Contains([]int{2, 6, 10, 14}, op.K) {
			out++
		}
	}
	return out
}

// Modulo prime there are sixteenth roots of one, root among them, and roots of two:
// what is the same in exact numbers is the same there, and what is not is hardly so.
const (
	prime = 15<<27 + 1
	root  = 196396260 // its eighth power is -1
)

func times(a, b uint64) uint64 { return a * b % prime }

// turnedBy is an amplitude turned by k sixteenths.
func turnedBy(a uint64, k int) uint64 {
	for range k {
		a = times(a, root)
	}
	return a
}

// grid is what a circuit of one qubit leaves of basis states 0 and 1: two amplitudes of
// each.
type grid [4]uint64

// grided is the grid of a circuit.
func grided(c api.Circuit) grid {
	g := grid{1, 0, 0, 1}
	half := times(turnedBy(1, 2)+turnedBy(1, 14), (prime+1)/2)
	for _, op := range c.Ops {
		for i := 0; i < 4; i += 2 {
			a, b := g[i], g[i+1]
			switch op.Kind {
			case api.Phase:
				a, b = turnedBy(a, op.K), turnedBy(b, op.K)
			case api.X:
				a, b = b, a
			case api.H:
				a, b = times(a+b, half), times(a+prime-b, half)
			case api.P:
				b = turnedBy(b, op.K)
			}
			g[i], g[i+1] = a, b
		}
	}
	return g
}

// class is the same of circuits of one qubit that do the same, but for a turn of the
// whole: the least of all turned grids.
func class(c api.Circuit) grid {
	g := grided(c)
	least := g
	for range 15 {
		for i := range g {
			g[i] = times(g[i], root)
		}
		if slices.Compare(g[:], least[:]) < 0 {
			least = g
		}
	}
	return least
}

// sameButTurned: are all entries of a matrix those of another, turned by one number of
// sixteenths?
func sameButTurned(t *testing.T, a, b [][]string) bool {
	t.Helper()
	for k := range 16 {
		alike := len(a) == len(b)
		for i := range a {
			for j := range a[i] {
				alike = alike && number(t, a[i][j]).Mul(ring.Root(k)).Same(number(t, b[i][j]))
			}
		}
		if alike {
			return true
		}
	}
	return false
}

// normalHolds holds Normal to all that is promised of one circuit, in exact amplitudes,
// and is the form.
func normalHolds(t *testing.T, plains map[string]string, c api.Circuit) []string {
	t.Helper()
	form := normal(t, c)
	again := formed(t, plains, form)
	if !sameButTurned(t, matrix(t, again), matrix(t, c)) {
		t.Errorf("Normal of %s does something else: %v", short(c), short(form))
	}
	if got, most := len(form)-2, eighths(c); got > most {
		t.Errorf("Normal of %s: %d syllables, at most %d may be", short(c), got, most)
	}
	equal(t, "the form of the form's circuit", normal(t, again), form)
	return form
}

// normalFault is the fault of Normal.
func normalFault(c api.Circuit) api.Fault {
	if f := circ.Pure(c); f != none {
		return f
	}
	if c.Qubits > 1 {
		return fault(api.ErrQubits, 0)
	}
	for i, op := range c.Ops {
		if op.Kind == api.P && op.K&1 == 1 {
			return fault(api.ErrRing, i)
		}
	}
	return none
}

// entryCode is the code of an entry's fault, or 0. Of a number of the eighth roots each
// second part is 0.
func entryCode(entry string) int {
	if _, f := ring.Parse(entry); f != none {
		return api.ErrText
	}
	parts, _, _ := strings.Cut(entry, "/")
	for i, part := range strings.Split(parts, ",") {
		if i%2 == 1 && part != "0" {
			return api.ErrRing
		}
	}
	return 0
}

// fullFault is the fault of Full.
func fullFault(t *testing.T, m [][]string) api.Fault {
	t.Helper()
	if len(m) != 2 && len(m) != 4 {
		return fault(api.ErrSize, 0)
	}
	for i, row := range m {
		if len(row) != len(m) {
			return fault(api.ErrSize, i)
		}
		for _, entry := range row {
			if code := entryCode(entry); code != 0 {
				return fault(code, i)
			}
		}
	}
	return fault(lateCode(t, m), 0)
}

// lateCode is the code of the fault of a matrix of numbers, or 0. What is not deep has
// no bar when it is multiplied by the root of two to the twelfth, 64.
func lateCode(t *testing.T, m [][]string) int {
	t.Helper()
	raised, _ := ring.Make([]int{64}, 0)
	for _, row := range m {
		for _, entry := range row {
			if strings.Contains(number(t, entry).Mul(raised).Text(), "/") {
				return api.ErrMany
			}
		}
	}
	for i := range m {
		for j := range m {
			var sum ring.Num
			for k := range m {
				sum = sum.Add(number(t, m[i][k]).Mul(number(t, m[j][k]).Conj()))
			}
			if want := map[bool]string{true: "1", false: "0"}[i == j]; sum.Text() != want {
				return api.ErrUnitary
			}
		}
	}
	return 0
}

// fullHolds holds Full's circuit to all that is promised, and is that circuit.
func fullHolds(t *testing.T, m [][]string) api.Circuit {
	t.Helper()
	c := full(t, m)
	equal(t, "Pure", circ.Pure(c), none)
	equal(t, "qubits and bits", []int{c.Qubits, c.Bits}, []int{len(m) / 2, 0})
	if got := matrix(t, c); fmt.Sprint(got) != fmt.Sprint(m) {
		t.Errorf("Full of %s does something else: %s", short(m), short(got))
	}
	return c
}
