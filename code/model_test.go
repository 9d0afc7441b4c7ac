package code_test

import (
	"fmt"
	"math/big"
	"regexp"
	"slices"
	"strings"
	"testing"

	"qloom/api"
)

// What the document says, written out once more: Paulis are texts, and all errors and
// all products are gone through.

// isPauli: is the text a Pauli of so many qubits?
func isPauli(text string, qubits int) bool {
	return regexp.MustCompile(fmt.Sprintf(`\A[+-][IXYZ]{%d}\z`, qubits)).MatchString(text)
}

// commute: are there unlike letters, none of them I, on an even number of qubits?
func commute(a, b string) bool {
	unlike := 0
	for i := 1; i < len(a); i++ {
		if a[i] != 'I' && b[i] != 'I' && a[i] != b[i] {
			unlike++
		}
	}
	return unlike%2 == 0
}

// product is that of two Paulis, with + whatever its sign is.
func product(a, b string) string {
	out := []byte("+")
	for i := 1; i < len(a); i++ {
		switch {
		case a[i] == 'I':
			out = append(out, b[i])
		case b[i] == 'I':
			out = append(out, a[i])
		case a[i] == b[i]:
			out = append(out, 'I')
		default:
			out = append(out, 'X'^'Y'^'Z'^a[i]^b[i])
		}
	}
	return string(out)
}

// idle is the Pauli that does nothing.
func idle(qubits int) string { return "+" + strings.Repeat("I", qubits) }

// groupOf are all products of some generators, with + whatever their signs are.
func groupOf(qubits int, gens []string) map[string]bool {
	out := map[string]bool{}
	for which := range 1 << len(gens) {
		p := idle(qubits)
		for i, gen := range gens {
			if which>>i&1 == 1 {
				p = product(p, gen)
			}
		}
		out[p] = true
	}
	return out
}

// checkFault is the fault of Check.
func checkFault(c api.Code) api.Fault {
	if c.N < 1 || c.N > 12 {
		return fault(api.ErrQubits, 0)
	}
	if len(c.Gens) > c.N {
		return fault(api.ErrMany, 0)
	}
	for i, gen := range c.Gens {
		if !isPauli(gen, c.N) {
			return fault(api.ErrPauli, i)
		}
	}
	for i, gen := range c.Gens {
		for _, ahead := range c.Gens[:i] {
			if !commute(gen, ahead) {
				return fault(api.ErrCommute, i)
			}
		}
	}
	for i, gen := range c.Gens {
		if groupOf(c.N, c.Gens[:i])["+"+gen[1:]] {
			return fault(api.ErrDepend, i)
		}
	}
	return none
}

// weight is on how many qubits the letter is not I.
func weight(pauli string) int { return len(pauli) - 1 - strings.Count(pauli, "I") }

// syndromeOf is 1 for each generator that does not commute with an error.
func syndromeOf(c api.Code, pauli string) []int {
	out := make([]int, len(c.Gens))
	for i, gen := range c.Gens {
		if !commute(gen, pauli) {
			out[i] = 1
		}
	}
	return out
}

// errorsOf are all errors of so many qubits, with +, in the order of their letters.
func errorsOf(qubits int) []string {
	out := []string{"+"}
	for range qubits {
		var longer []string
		for _, text := range out {
			for _, letter := range "IXYZ" {
				longer = append(longer, text+string(letter))
			}
		}
		out = longer
	}
	return out
}

// leasts are the errors that Decode tells, by their syndromes as they are told.
func leasts(c api.Code) map[string]string {
	out := map[string]string{}
	for _, p := range errorsOf(c.N) {
		key := fmt.Sprint(syndromeOf(c, p))
		if old, ok := out[key]; !ok || weight(p) < weight(old) {
			out[key] = p
		}
	}
	return out
}

// distanceOf is what Distance tells.
func distanceOf(c api.Code) int {
	group := groupOf(c.N, c.Gens)
	least := 0
	for _, p := range errorsOf(c.N) {
		if slices.Contains(syndromeOf(c, p), 1) || group[p] {
			continue
		}
		if least == 0 || weight(p) < least {
			least = weight(p)
		}
	}
	return least
}

// failsOf is the chance that Fails tells, summed up over all errors.
func failsOf(c api.Code, chance *big.Rat) *big.Rat {
	group, mends := groupOf(c.N, c.Gens), leasts(c)
	rest := new(big.Rat).Sub(big.NewRat(1, 1), new(big.Rat).Mul(chance, big.NewRat(3, 1)))
	sum := new(big.Rat)
	for _, p := range errorsOf(c.N) {
		if group[product(p, mends[fmt.Sprint(syndromeOf(c, p))])] {
			continue
		}
		each := big.NewRat(1, 1)
		for _, letter := range p[1:] {
			if letter == 'I' {
				each.Mul(each, rest)
			} else {
				each.Mul(each, chance)
			}
		}
		sum.Add(sum, each)
	}
	return sum
}

// deeds are the operations that a Pauli is.
func deeds(pauli string) []api.Op {
	var ops []api.Op
	for q, letter := range pauli[1:] {
		flip, turn := api.Op{Kind: api.X, Q: q}, api.Op{Kind: api.P, K: 8, Q: q}
		switch letter {
		case 'X':
			ops = append(ops, flip)
		case 'Z':
			ops = append(ops, turn)
		case 'Y':
			ops = append(ops, turn, flip, api.Op{Kind: api.Phase, K: 4})
		}
	}
	if pauli[0] == '-' {
		ops = append(ops, api.Op{Kind: api.Phase, K: 8})
	}
	return ops
}

// isStabilizer: is it a stabilizer operation?
func isStabilizer(op api.Op) bool {
	switch {
	case op.Kind == api.Phase || op.Kind == api.Measure || op.Kind == api.Reset:
		return true
	case op.Kind == api.X:
		return len(op.Ctl) <= 1
	case op.Kind == api.H:
		return len(op.Ctl) == 0
	case op.Kind == api.P && len(op.Ctl) == 0:
		return op.K%4 == 0
	}
	return op.Kind == api.P && len(op.Ctl) == 1 && op.K%8 == 0
}

// The model itself: products and orders that are known.
func TestTheModel(t *testing.T) {
	equal(t, "a product", product("-XYZIX", "+YYIZZ"), "+ZIZZY")
	equal(t, "unlike letters on two qubits", commute("+XXI", "-ZYZ"), true)
	equal(t, "unlike letters on one qubit", commute("+XXI", "-ZXZ"), false)
	equal(t, "a group", len(groupOf(5, five.Gens)), 16)
	equal(t, "errors", errorsOf(2)[:6], "[+II +IX +IY +IZ +XI +XX]")
	equal(t, "a weight", weight("-IXYIZI"), 3)
	for _, c := range known() {
		equal(t, "a code", checkFault(c), none)
	}
	for i := range 300 {
		n := noise(i)
		c := n.some(12)
		equal(t, short(c), checkFault(c), none)
	}
}
