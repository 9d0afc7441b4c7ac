package weave_test

import (
	"fmt"
	"strings"
	"testing"

	"qloom/api"
	"qloom/state"
)

func TestFlips(t *testing.T) {
	head := "qubits 4 bits 0"
	for _, c := range []struct {
		truth string
		lines []string
	}{
		{"0", nil}, {"1", []string{"x 3"}}, {"!0", []string{"x 3"}}, {"!1", nil}, {"!!1", []string{"x 3"}}, {"q[0]", []string{"x 3 on 0"}}, {"!q[1]", []string{"x 3 on 1", "x 3"}}, {"!!q[1]", []string{"x 3 on 1"}},
		{"q[0] & q[1]", []string{"x 3 on 0 1"}}, {"q[0] ^ q[1]", []string{"x 3 on 0", "x 3 on 1"}}, {"q[0] | q[1]", []string{"x 3 on 0", "x 3 on 1", "x 3 on 0 1"}}, {"q[0] & q[1] & q[2]", []string{"x 3 on 0 1 2"}},
		{"q[0] ^ q[1] & q[2]", []string{"x 3 on 0", "x 3 on 1 2"}}, {"(q[0] ^ q[1]) & q[2]", []string{"x 3 on 0 2", "x 3 on 1 2"}}, {"q[0] | q[1] ^ q[2]", []string{"x 3 on 0", "x 3 on 1", "x 3 on 2", "x 3 on 0 1", "x 3 on 0 2"}},
		{"q[0] & !q[1]", []string{"x 3 on 0", "x 3 on 0 1"}}, {"!(q[0] | q[1])", []string{"x 3", "x 3 on 0", "x 3 on 1", "x 3 on 0 1"}}, {"q[0] | 1", []string{"x 3"}}, {"q[0] & 0", nil}, {"q[0] ^ 1", []string{"x 3", "x 3 on 0"}},
		{"q[0] ^ q[0]", nil}, {"q[0] & q[0]", []string{"x 3 on 0"}}, {"q[0] | q[0]", []string{"x 3 on 0"}}, {"q[0] & !q[0]", nil}, {"q[0] | !q[0]", []string{"x 3"}}, {"q[0] ^ q[1 - 1] ^ q[k]", []string{"x 3 on 1"}},
		{"q[k] & q[size(q) - 2]", []string{"x 3 on 1 2"}},
	} {
		does(t, "qubit q[4]; const k = 1; q[3] ^= "+c.truth+";", append([]string{head}, c.lines...)...)
	}
	does(t, "qubit q[4]; gate g a, b[], c { a ^= b[1] & !c | b[0]; b[0] ^= c; } g q[2], q[0 .. 2], q[3];", head, "x 2 on 1", "x 2 on 1 3", "x 2 on 0", "x 2 on 0 1", "x 2 on 0 1 3", "x 0 on 3")
	does(t, "qubit q[4]; gate g a, b { h a; a ^= !b; t a; } inv @ g q[2], q[0];", head, "p 14 2", "x 2 on 0", "x 2", "h 2")
	does(t, "qubit q[4]; gate g a, b { a ^= !b; } ctrl @ g q[3], q[2], q[0];", head, "x 2 on 3 0", "x 2 on 3")
}

// All truths of three qubits, as their tables say.
func TestFlipsOfAllTruths(t *testing.T) {
	for table := range 256 {
		var terms []string
		for x := range 8 {
			if table>>x&1 == 0 {
				continue
			}
			var factors []string
			for q := range 3 {
				factors = append(factors, []string{"!", ""}[x>>q&1]+fmt.Sprintf("q[%d]", q))
			}
			terms = append(terms, strings.Join(factors, " & "))
		}
		c := woven(t, "qubit q[4]; q[3] ^= 0 | "+strings.Join(append(terms, "0"), []string{" | ", " ^ "}[table%2])+";")
		for x := range 16 {
			shot, _ := state.Run(c, x, nil)
			equal(t, fmt.Sprint("table ", table, " from ", x), shot.Amps[x^table>>(x%8)&1<<3], "1")
		}
	}
}

func TestFlipsOfAllQubits(t *testing.T) {
	var all []string
	for q := range 7 {
		all = append(all, fmt.Sprintf("q[%d]", q))
	}
	and := woven(t, "qubit q[8]; q[7] ^= "+strings.Join(all, " & ")+";")
	or := woven(t, "qubit q[8]; q[7] ^= "+strings.Join(all, " | ")+";")
	xor := woven(t, "qubit q[8]; q[7] ^= "+strings.Join(all, " ^ ")+";")
	for x := range 256 {
		ones := strings.Count(fmt.Sprintf("%b", x%128), "1")
		for _, c := range []struct {
			circuit api.Circuit
			turns   bool
		}{{and, ones == 7}, {or, ones > 0}, {xor, ones%2 == 1}} {
			want := x
			if c.turns {
				want ^= 128
			}
			shot, _ := state.Run(c.circuit, x, nil)
			equal(t, "from", shot.Amps[want], "1")
		}
	}
}

// long are truths of so many nodes, of q[0] to q[2].
func long(nodes int) []string {
	if nodes%2 == 0 {
		var out []string
		for _, inner := range long(nodes - 1) {
			out = append(out, "!("+inner+")")
		}
		return append(out, strings.Repeat("!", nodes-1)+"q[0]")
	}
	refs := (nodes + 1) / 2
	var mixed strings.Builder
	for i := range refs {
		if i > 0 {
			mixed.WriteString([]string{" & ", " | ", " ^ "}[i*i%3])
		}
		mixed.WriteString([]string{"q[0]", "q[1]", "q[2]", "0", "1", "q[0 + 1 * 1 - 1]", "q[-(-(-(-(0))))]"}[i%7])
	}
	row := func(part, sign string) string { return part + strings.Repeat(sign+part, refs-1) }
	brackets := func(part, sign string) string {
		return strings.Repeat(part+sign+"(", refs-1) + part + strings.Repeat(")", refs-1)
	}
	return []string{mixed.String(), row("q[0]", " ^ "), row("0", "^"), row("1", "|"), row("q[2 ** 0 + 1 - 2 / 2]", " & "), brackets("q[1]", "^"), brackets("0", "|"), strings.Repeat("!", nodes-1) + "q[1]", strings.Repeat("!", nodes-1) + "0"}
}

func TestLongTruths(t *testing.T) {
	for _, nodes := range []int{1, 2, 3, 100, 199, 200} {
		for _, truth := range long(nodes) {
			equal(t, truth, holdMeaning(t, "qubit q[4]; q[3] ^= "+truth+";"), none)
		}
	}
	for _, nodes := range []int{201, 202, 301, 1000} {
		for _, truth := range long(nodes) {
			refused(t, "qubit q[4]; $q[3] ^= "+truth+";", api.ErrLong)
			// It comes ahead of all else of the statement.
			refused(t, "qubit q[4]; $nobody ^= "+truth+";", api.ErrLong)
			refused(t, "qubit q[4]; $q[1 / 0] ^= "+truth+";", api.ErrLong)
			refused(t, "qubit q[4]; $q[3] ^= q[3] & nobody | "+truth+";", api.ErrLong)
		}
	}
	refused(t, "qubit q[4]; $q[3] ^= "+strings.Repeat("!", 30000)+"0;", api.ErrLong)
	does(t, "qubit q[2]; q[0] ^= q[0"+strings.Repeat(" + 1 - 1", 1000)+" + 1];", "qubits 2 bits 0", "x 0 on 1")
}

func TestFaultsOfFlips(t *testing.T) {
	for _, c := range []struct {
		marked string
		code   int
	}{
		{"$nobody ^= nobody;", api.ErrName}, {"$q ^= 1;", api.ErrType}, {"$q[0 .. 1] ^= nobody;", api.ErrType}, {"$b[0] ^= 1;", api.ErrType}, {"$k ^= 1;", api.ErrType}, {"$q[4] ^= nobody;", api.ErrRange}, {"q[1 $/ 0] ^= nobody;", api.ErrZero},
		{"q[0] ^= $nobody;", api.ErrName}, {"q[0] ^= $b[0];", api.ErrType}, {"q[0] ^= $q;", api.ErrType}, {"q[0] ^= $q[1 .. 2];", api.ErrType}, {"q[0] ^= $k;", api.ErrType}, {"q[0] ^= $x;", api.ErrType}, {"q[0] ^= q[1] & $q[4];", api.ErrRange}, {"q[0] ^= !q[1 $% 0];", api.ErrZero},
		{"q[0] ^= $q[0];", api.ErrClone}, {"q[0] ^= q[1] & $q[0];", api.ErrClone}, {"q[0] ^= !($q[0] ^ q[0]);", api.ErrClone}, {"q[0] ^= q[1] | $q[size(q) - 4];", api.ErrClone}, {"q[k] ^= 0 & $q[1];", api.ErrClone},
		// From the left.
		{"q[0] ^= $q[0] & nobody;", api.ErrClone}, {"q[0] ^= $nobody & q[0];", api.ErrName}, {"q[0] ^= q[1] & ($nobody | q[0]) ^ q;", api.ErrName}, {"q[0] ^= (q[1] ^ $q[0]) | nobody;", api.ErrClone}, {"q[0] ^= !(1 | $q) & q[0];", api.ErrType}, {"q[0] ^= 0 & 0 & 0 & $q[9] & q[1 / 0];", api.ErrRange},
	} {
		refused(t, "qubit q[4]; bit b[2]; const k = 1; "+c.marked, c.code)
	}
	refused(t, "qubit q[2]; gate g a, b { a ^= b & $a; } g q[0], q[1];", api.ErrClone)
	refused(t, "qubit q[2]; gate g a[] { a[0] ^= $a[size(a) - 2]; } g q;", api.ErrClone)
	refused(t, "qubit q[2]; gate g a[] { a[0] ^= $a; } g q;", api.ErrType)
	refused(t, "qubit q[2]; gate g a { a ^= $q[1]; } g q[0];", api.ErrName)
}
