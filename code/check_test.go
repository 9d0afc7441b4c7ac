package code_test

import (
	"fmt"
	"math"
	"slices"
	"strings"
	"testing"

	"qloom/api"
	"qloom/code"
)

// refused holds all calls that are given a code to a fault of the code, beside which
// nothing is answered, whatever else they are given.
func refused(t *testing.T, what string, c api.Code, want api.Fault) {
	t.Helper()
	equal(t, what+": Check of "+short(c), code.Check(c), want)
	for _, text := range []string{"", idle(min(max(c.N, 0), 20)), "1/2", "1/10"} {
		marks, f := code.Syndrome(c, text)
		equal(t, what+": Syndrome", []any{marks, f}, []any{[]int{}, want})
		chance, f := code.Fails(c, text)
		equal(t, what+": Fails", []any{chance, f}, []any{"", want})
	}
	for _, list := range [][]int{nil, {2}, make([]int, len(c.Gens))} {
		mend, f := code.Decode(c, list)
		equal(t, what+": Decode", []any{mend, f}, []any{"", want})
	}
	least, f := code.Distance(c)
	equal(t, what+": Distance", []any{least, f}, []any{0, want})
	made, f := code.Encoder(c)
	equal(t, what+": Encoder", []any{made, f}, []any{api.Circuit{}, want})
	made, f = code.Measurer(c)
	equal(t, what+": Measurer", []any{made, f}, []any{api.Circuit{}, want})
}

func TestCodesThatMayBe(t *testing.T) {
	for _, c := range known() {
		equal(t, short(c), code.Check(c), none)
	}
	for qubits := 1; qubits <= api.MaxCode; qubits++ {
		for gens := range qubits + 1 {
			n := noise(qubits * gens)
			c := n.code(qubits, gens)
			equal(t, short(c), code.Check(c), none)
		}
	}
}

func TestNumbersOfQubits(t *testing.T) {
	for _, n := range []int{math.MinInt64, -1, 0, api.MaxCode + 1, 16, 17, 1 << 32, math.MaxInt64} {
		refused(t, "qubits", api.Code{N: n}, fault(api.ErrQubits, 0))
		refused(t, "qubits", of(n, "+X +X X +Z"), fault(api.ErrQubits, 0))
		refused(t, "qubits", of(n, "+IIIIIIIIIIIII"), fault(api.ErrQubits, 0))
	}
}

func TestTooManyGenerators(t *testing.T) {
	for qubits := 1; qubits <= api.MaxCode; qubits++ {
		n := noise(qubits)
		c := n.code(qubits, qubits)
		equal(t, "as many as qubits", code.Check(c), none)
		for _, gen := range []string{c.Gens[0], idle(qubits), "X", "", n.pauli(qubits)} {
			more := copyOf(c)
			more.Gens = append(more.Gens, gen)
			refused(t, "one more", more, fault(api.ErrMany, 0))
			refused(t, "all alike", api.Code{N: qubits, Gens: slices.Repeat([]string{gen}, qubits+1)}, fault(api.ErrMany, 0))
		}
	}
	refused(t, "very many", api.Code{N: 12, Gens: make([]string, 1<<20)}, fault(api.ErrMany, 0))
}

// Each place of a code has a text that is no Pauli of its qubits.
func TestGeneratorsThatAreNoPaulis(t *testing.T) {
	good := of(5, "+XZZXI -IXZZX +XIXZZ")
	for _, text := range []string{
		"", "+", "-", "X", "XZZXI", "+XZZX", "+XZZXII", "-ZZ", "+xzzxi", "+XZZXi", "+XZQXI", "*XZZXI", " XZZXI", "+XZZX ", "+XZZX\n", "+XZZXI\n",
		" +XZZXI", "+XZZX\x00", "++XZZX", "+-XZZX", "iXZZXI", "+XZZé", "+XZé", "−XZZXI", "+11111", "+AAAAA", "+HHHHH", "+WWWWW", "+JJJJJ", "IIIIII",
		strings.Repeat("X", 1<<20), "+" + strings.Repeat("X", 1<<20),
	} {
		for i := range len(good.Gens) + 1 {
			c := api.Code{N: 5, Gens: slices.Insert(slices.Clone(good.Gens), i, text)}
			refused(t, "no Pauli", c, fault(api.ErrPauli, i))
			c.Gens = append(c.Gens, "+")
			refused(t, "the first", c, fault(api.ErrPauli, i))
		}
	}
}

// Of all texts of two bytes those that are Paulis of one qubit, and no others, are
// taken; what does nothing hangs on nothing at all.
func TestAllShortGenerators(t *testing.T) {
	for a := range 256 {
		for b := range 256 {
			c := api.Code{N: 1, Gens: []string{string([]byte{byte(a), byte(b)})}}
			want := fault(api.ErrPauli, 0)
			if isPauli(c.Gens[0], 1) {
				want = none
			}
			if c.Gens[0] == "+I" || c.Gens[0] == "-I" {
				want = fault(api.ErrDepend, 0)
			}
			if f := code.Check(c); f != want {
				t.Errorf("Check of %q: %v, want %v", c.Gens[0], f, want)
			}
		}
	}
}

func TestGeneratorsThatDoNotCommute(t *testing.T) {
	for _, tried := range []struct {
		qubits int
		gens   string
		at     int
	}{
		{2, "+XI +ZI", 1}, {2, "-XI +YI", 1}, {2, "+YI -ZI", 1}, {2, "+IX +IZ", 1}, {2, "+XX +IZ", 1}, {2, "+XY +XZ", 1}, {2, "+ZZ +XI", 1},
		{3, "+XXX +ZZZ", 1}, {3, "+ZZI +IZZ +XII", 2}, {3, "+ZZI +IZZ -IIY", 2}, {3, "+ZII +IXI +IZX", 2}, {3, "+ZII +XZI +XII", 1},
		{4, "+XXXX +ZZZZ +YYYI +XIII", 2}, {4, "+XXXX +ZZZZ -XXII +ZIII", 3}, {12, "+XXXXXXXXXXXX +ZZZZZZZZZZZI", 1},
	} {
		refused(t, "not commuting", of(tried.qubits, tried.gens), fault(api.ErrCommute, tried.at))
	}
	for _, gens := range []string{"+XX +ZZ", "+XX -YY", "+XY +YX", "+XZ +ZX", "-XY +ZZ", "+IX +ZI"} {
		equal(t, gens, code.Check(of(2, gens)), none)
	}
}

func TestGeneratorsThatHangOnOthers(t *testing.T) {
	for _, tried := range []struct {
		qubits int
		gens   string
		at     int
	}{
		{1, "+I", 0}, {1, "-I", 0}, {2, "+II +XI", 0}, {2, "+XI +II", 1}, {2, "+XI -II", 1}, {2, "+XI +XI", 1}, {2, "+XI -XI", 1}, {2, "-ZZ +ZZ", 1},
		{3, "+ZZI +IZZ +ZIZ", 2}, {3, "+ZZI +IZZ -ZIZ", 2}, {3, "+XXI +ZZI +YYI", 2}, {3, "+XXI +ZZI -YYI", 2}, {3, "+XXX +III +XXX", 1},
		{4, "+XXXX +ZZZZ +YYYY +IIII", 2}, {4, "+XXII +IXXI +IIXX +XIIX", 3}, {4, "+XXII -IIXX +IXXI -XIIX", 3},
		{12, "+ZZZZZZZZZZZZ +XXXXXXXXXXXX -YYYYYYYYYYYY", 2},
	} {
		refused(t, "hanging", of(tried.qubits, tried.gens), fault(api.ErrDepend, tried.at))
	}
	// The last of as many as there may be is a product of all that are ahead of it.
	for qubits := 2; qubits <= api.MaxCode; qubits++ {
		n := noise(qubits)
		c := n.code(qubits, qubits-1)
		last := idle(qubits)
		for _, gen := range c.Gens {
			last = product(last, gen)
		}
		for _, sign := range []string{"+", "-"} {
			more := copyOf(c)
			more.Gens = append(more.Gens, sign+last[1:])
			refused(t, "a product of all", more, fault(api.ErrDepend, qubits-1))
		}
	}
}

// Of a code that has all faults at once, they are mended one by one: each time the next
// one in the document's order is told.
func TestTheFirstFaultOfACodeIsTold(t *testing.T) {
	c := of(13, "+III -III +XIZ XII +IX +ZII +XIZ +IXI")
	c.N = 0
	for i, step := range []struct {
		want api.Fault
		mend func()
	}{
		{fault(api.ErrQubits, 0), func() { c.N = 13 }},
		{fault(api.ErrQubits, 0), func() { c.N = 3 }},
		{fault(api.ErrMany, 0), func() { c.N = 7 }},
		{fault(api.ErrMany, 0), func() { c.N = 8 }},
		{fault(api.ErrPauli, 0), func() { c = of(6, "+IIIIII +XIZIII XIIIII +IXIIII +ZIIIII +XIZIII") }},
		{fault(api.ErrPauli, 2), func() { c.Gens[2] = "-XIIII" }},
		{fault(api.ErrPauli, 2), func() { c.Gens[2] = "-XIIIII" }},
		{fault(api.ErrCommute, 4), func() { c.Gens[4] = "+IIIIIZ" }},
		{fault(api.ErrDepend, 0), func() { c.Gens[0] = "-IIIIIX" }},
		{fault(api.ErrCommute, 4), func() { c.Gens[0] = "-IIIIIZ" }},
		{fault(api.ErrDepend, 4), func() { c.Gens[4] = "-IIZIII" }},
		{fault(api.ErrDepend, 4), func() { c.Gens[4] = "+IIIXYI" }},
		{fault(api.ErrDepend, 5), func() { c.Gens[5] = "+IIIIXI" }},
		{fault(api.ErrCommute, 5), func() { c.Gens[5] = "+IIIIYZ" }},
	} {
		refused(t, fmt.Sprint("step ", i), c, step.want)
		step.mend()
	}
	equal(t, "all mended", code.Check(c), none)
}

// All codes of one qubit, and of two with up to three generators.
func TestAllSmallCodes(t *testing.T) {
	t.Parallel()
	seen := map[int]int{}
	var place func(c api.Code, texts []string, more int)
	place = func(c api.Code, texts []string, more int) {
		want := checkFault(c)
		seen[want.Code]++
		if f := code.Check(c); f != want {
			t.Errorf("Check of %v: %v, want %v", c, f, want)
		}
		for i := 0; more > 0 && i < len(texts); i++ {
			place(api.Code{N: c.N, Gens: append(slices.Clone(c.Gens), texts[i])}, texts, more-1)
		}
	}
	for qubits := 1; qubits <= 2; qubits++ {
		texts := []string{"X"}
		for _, p := range errorsOf(qubits) {
			texts = append(texts, p, "-"+p[1:])
		}
		place(api.Code{N: qubits}, texts, qubits+1)
	}
	for _, kind := range []int{0, api.ErrMany, api.ErrPauli, api.ErrCommute, api.ErrDepend} {
		equal(t, fmt.Sprint("codes with fault ", kind), seen[kind] > 50, true)
	}
}

// spoil puts something odd somewhere into a code.
func (n *noise) spoil(c *api.Code) {
	if len(c.Gens) == 0 || n.below(12) == 0 {
		c.N = []int{math.MinInt64, -1, 0, 1, 2, 3, 4, 5, 6, 9, 10, 12, 13, math.MaxInt64}[n.below(14)]
		return
	}
	at := n.below(len(c.Gens))
	switch text := []byte(c.Gens[at]); n.below(7) {
	case 0:
		if len(text) > 0 {
			text[n.below(len(text))] = "+-IXYZix\n"[n.below(9)]
			c.Gens[at] = string(text)
		}
	case 1:
		c.Gens[at] = n.pauli(min(max(c.N, 0), 13))
	case 2:
		c.Gens[at] = c.Gens[n.below(len(c.Gens))]
	case 3:
		c.Gens = append(c.Gens, c.Gens[at])
	case 4:
		if other := c.Gens[n.below(len(c.Gens))]; len(other) == len(text) && len(text) > 0 {
			c.Gens = append(c.Gens, product(c.Gens[at], other))
		}
	case 5:
		c.Gens = slices.Delete(c.Gens, at, at+1)
	case 6:
		if len(text) > 1 {
			text[1+n.below(len(text)-1)] = "IXYZ"[n.below(4)]
			c.Gens[at] = string(text)
		}
	}
}

// Codes without order, some with odd things in them.
func TestFaultsOfManyCodes(t *testing.T) {
	t.Parallel()
	seen := map[int]int{}
	for i := range 8000 {
		n := noise(i)
		c := n.some(8)
		for range n.below(4) {
			n.spoil(&c)
		}
		want := checkFault(c)
		seen[want.Code]++
		if want == none {
			equal(t, short(c), code.Check(c), none)
		} else {
			refused(t, "spoiled", c, want)
		}
	}
	for _, kind := range []int{0, api.ErrQubits, api.ErrMany, api.ErrPauli, api.ErrCommute, api.ErrDepend} {
		equal(t, fmt.Sprint("codes with fault ", kind), seen[kind] > 100, true)
	}
}
