package synth_test

import (
	"fmt"
	"slices"
	"strings"
	"testing"

	"qloom/api"
	"qloom/synth"
)

func TestNormalOfExamples(t *testing.T) {
	for lines, want := range map[string]string{
		"":                           "+X +Z",
		"p 2 0, h 0":                 "HT +X +Z",
		"p 4 0":                      "+Y +Z",
		"p 2 0, p 2 0":               "+Y +Z",
		"p 2 0":                      "T +X +Z",
		"p 6 0":                      "T +Y +Z",
		"p 10 0":                     "T -X +Z",
		"p 14 0":                     "T -Y +Z",
		"h 0":                        "+Z +X",
		"x 0":                        "+X -Z",
		"p 8 0":                      "-X +Z",
		"p 12 0":                     "-Y +Z",
		"h 0, p 4 0":                 "+Z +Y",
		"p 4 0, h 0":                 "-Y +X",
		"h 0, p 2 0":                 "T +Z +X",
		"p 2 0, h 0, p 4 0":          "SHT +X +Z",
		"p 2 0, h 0, p 2 0":          "T HT +X +Z",
		"p 2 0, h 0, p 6 0":          "T SHT +X +Z",
		"x 0, p 2 0":                 "T +X -Z",
		"p 2 0, x 0":                 "T -Y -Z",
		"p 2 0, h 0, h 0, p 14 0":    "+X +Z",
		"p 2 0, x 0, p 2 0, x 0":     "+X +Z",
		"phase 1":                    "+X +Z",
		"phase 15, p 0 0, phase 3":   "+X +Z",
		"phase 7, p 2 0, h 0, p 0 0": "HT +X +Z",
	} {
		equal(t, lines, strings.Join(normal(t, one(t, lines)), " "), want)
	}
}

// Bits may be there, though no gate uses them.
func TestNormalOfCircuitsWithBits(t *testing.T) {
	for bits := range api.MaxBits + 1 {
		c := one(t, "p 2 0, h 0")
		c.Bits = bits
		equal(t, "bits", normal(t, c), "[HT +X +Z]")
	}
}

// There are 24 plain ones: no syllables, and what package tableau says of X and Z.
func TestNormalOfPlainOnes(t *testing.T) {
	known := plains(t)
	equal(t, "plain ones", len(known), 24)
	for texts, word := range known {
		equal(t, word, strings.Join(normal(t, spelled(word)), " "), texts)
		normalHolds(t, known, spelled(word))
	}
	gates := []api.Op{{Kind: api.H}, {Kind: api.X}, {Kind: api.P}, {Kind: api.P, K: 4}, {Kind: api.P, K: 8}, {Kind: api.P, K: 12}, {Kind: api.Phase, K: 5}}
	for length := range 6 {
		rows(gates, length, func(ops []api.Op) {
			c := api.Circuit{Qubits: 1, Ops: ops}
			equal(t, short(c), strings.Join(normal(t, c), " "), images(t, c))
		})
	}
}

// words visits all words of at most so many syllables, with and without a leading T.
func words(most int, visit func(syllables []string)) {
	row := []string{}
	var place func()
	place = func() {
		visit(row)
		if len(row) == most {
			return
		}
		for _, s := range []string{"T", "HT", "SHT"} {
			if s != "T" || len(row) == 0 {
				row = append(row, s)
				place()
				row = row[:len(row)-1]
			}
		}
	}
	place()
}

// A word that is made as the document says is its own normal form.
func TestNormalOfWords(t *testing.T) {
	known := plains(t)
	tried := 0
	words(6, func(syllables []string) {
		for texts, plain := range known {
			c := spelled(strings.Join(syllables, "") + plain)
			equal(t, short(c), fmt.Sprint(normal(t, c)), fmt.Sprint(append(slices.Clone(syllables), strings.Fields(texts)...)))
			tried++
		}
	})
	equal(t, "words", tried, 24*(1+3*(1<<6-1)))
}

// Long words, up to as many gates as a circuit may have.
func TestNormalOfLongWords(t *testing.T) {
	known := plains(t)
	all := make([]string, 0, len(known))
	for texts := range known {
		all = append(all, texts)
	}
	slices.Sort(all)
	for i := range 300 {
		n := noise(i)
		syllables, texts := n.syllables(n.below(1+5*i)), all[n.below(len(all))]
		c := spelled(strings.Join(syllables, "") + known[texts])
		if len(c.Ops) > api.MaxOps {
			continue
		}
		equal(t, "a long word", normal(t, c), append(syllables, strings.Fields(texts)...))
	}
	long := slices.Repeat([]string{"HT"}, api.MaxOps/2)
	equal(t, "the longest word", normal(t, spelled(strings.Join(long, ""))), append(long, "+X", "+Z"))
	long[0] = "SHT"
	equal(t, "the longest word", normal(t, spelled(strings.Join(long[:len(long)-1], ""))), append(long[:len(long)-1], "+X", "+Z"))
}

// Circuits of gates of every kind: what the form does is what the circuit does.
func TestNormalOfManyCircuits(t *testing.T) {
	t.Parallel()
	known := plains(t)
	lengths := map[int]int{}
	for i := range 3000 {
		n := noise(i)
		c := n.gates(1, n.below(100))
		for j, op := range c.Ops {
			if op.Kind == api.Phase {
				c.Ops[j].K = n.below(16)
			}
		}
		lengths[len(normalHolds(t, known, c))-2]++
	}
	for length := range 10 {
		equal(t, "forms of each length", lengths[length] > 10, true)
	}
}

// All short circuits, of many gates or of few: those that do the same, but for a turn of
// the whole, have the same form, and no others have it. None of them has fewer turns by
// odd eighths than the form has syllables.
func TestNormalOfAllShortCircuits(t *testing.T) {
	t.Parallel()
	h, eighth, quarter := api.Op{Kind: api.H}, api.Op{Kind: api.P, K: 2}, api.Op{Kind: api.P, K: 4}
	forms, classes := map[grid]string{}, map[string]grid{}
	try := func(ops []api.Op) {
		c := api.Circuit{Qubits: 1, Ops: ops}
		list := normal(t, c)
		g, form := class(c), strings.Join(list, " ")
		if was, ok := forms[g]; ok && was != form {
			t.Fatalf("%s: %s and %s do the same", short(c), form, was)
		}
		if was, ok := classes[form]; ok && was != g {
			t.Fatalf("%s: what is not the same has the form %s", short(c), form)
		}
		forms[g], classes[form] = form, g
		if len(list)-2 > eighths(c) {
			t.Fatalf("%s: %s has too many syllables", short(c), form)
		}
	}
	for _, of := range []struct {
		gates []api.Op
		most  int
	}{
		{[]api.Op{h, {Kind: api.X}, eighth, quarter, {Kind: api.P, K: 10}, {Kind: api.P, K: 14}, {Kind: api.Phase, K: 3}}, 6},
		{[]api.Op{h, eighth, quarter}, 11},
		{[]api.Op{h, eighth}, 16},
	} {
		for length := range of.most + 1 {
			rows(of.gates, length, try)
		}
	}
	equal(t, "many forms", len(forms) > 1500, true)
}

// idles are circuits that do nothing but turn the whole.
func idles(t *testing.T) []api.Circuit {
	t.Helper()
	var out []api.Circuit
	for _, lines := range []string{
		"h 0, h 0", "x 0, x 0", "phase 9", "p 0 0", "p 2 0, p 14 0", "p 6 0, p 10 0", "p 4 0, p 8 0, p 4 0",
		"h 0, p 8 0, h 0, x 0", "h 0, p 4 0, h 0, p 4 0, h 0, p 4 0", "x 0, p 2 0, x 0, p 2 0", "x 0, p 6 0, x 0, p 6 0",
		"h 0, x 0, h 0, p 8 0", "p 2 0, h 0, p 4 0, h 0, p 14 0, p 2 0, h 0, p 12 0, h 0, p 14 0",
		"p 8 0, x 0, p 8 0, x 0", "p 2 0, p 2 0, p 12 0", "p 2 0, h 0, p 2 0, p 14 0, h 0, p 14 0",
	} {
		c := one(t, lines)
		equal(t, lines, normal(t, c), "[+X +Z]")
		out = append(out, c)
	}
	return out
}

// What does nothing changes no form, wherever it stands.
func TestNormalOfCircuitsThatDoTheSame(t *testing.T) {
	for i := range 1500 {
		n := noise(i)
		c := n.gates(1, n.below(40))
		want := normal(t, c)
		for range 1 + n.below(6) {
			all := idles(t)
			c.Ops = slices.Insert(c.Ops, n.below(len(c.Ops)+1), all[n.below(len(all))].Ops...)
		}
		equal(t, short(c), normal(t, c), want)
	}
}

func TestNormalOfWhatIsUndone(t *testing.T) {
	for i := range 500 {
		n := noise(i)
		c := n.gates(1, n.below(200))
		there := slices.Concat(c.Ops, inverse(t, c).Ops)
		equal(t, short(c), normal(t, api.Circuit{Qubits: 1, Ops: there}), "[+X +Z]")
	}
}

// Circuits as long as they may be, modulo a prime.
func TestNormalOfLongCircuits(t *testing.T) {
	known := plains(t)
	for i := range 20 {
		n := noise(i)
		c := n.gates(1, api.MaxOps-n.below(3))
		form := normal(t, c)
		equal(t, "what the form does", class(formed(t, known, form)), class(c))
		equal(t, "not too many", len(form)-2 <= eighths(c), true)
	}
	turns := api.Circuit{Qubits: 1, Ops: slices.Repeat([]api.Op{{Kind: api.P, K: 2}}, api.MaxOps)}
	equal(t, "turns alone", normal(t, turns), "[+X +Z]")
	equal(t, "one less", normal(t, api.Circuit{Qubits: 1, Ops: turns.Ops[1:]}), "[T -Y +Z]")
}

// By what Full makes of a circuit's matrix, the form is the same.
func TestNormalOfFull(t *testing.T) {
	for i := range 300 {
		n := noise(i)
		c := n.gates(1, n.below(30))
		d, f := synth.Full(matrix(t, c))
		if f.Code == api.ErrMany {
			continue
		}
		if form, f := synth.Normal(d); f == none {
			equal(t, short(c), form, normal(t, c))
		}
	}
}
