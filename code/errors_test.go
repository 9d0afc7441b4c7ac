package code_test

import (
	"fmt"
	"math"
	"slices"
	"strings"
	"testing"

	"qloom/api"
	"qloom/code"
)

func TestExamples(t *testing.T) {
	c := of(3, "+ZZI +IZZ")
	equal(t, "syndrome", syndrome(t, c, "+XII"), "[1 0]")
	equal(t, "decode", decode(t, c, []int{1, 0}), "+XII")
	equal(t, "distance", distance(t, c), 1)
	equal(t, "shows nowhere", syndrome(t, c, "+ZII"), "[0 0]")
	equal(t, "distance", distance(t, five), 3)
	equal(t, "patch", patch(t, 3, 1), "{N:3 Gens:[+XXI +IXX]}")
}

// Every error of small codes, with both signs.
func TestSyndromesOfAllErrors(t *testing.T) {
	t.Parallel()
	codes := known()
	for i := range 200 {
		n := noise(i)
		codes = append(codes, n.some(4))
	}
	for _, c := range codes {
		if c.N > 5 {
			continue
		}
		for _, p := range errorsOf(c.N) {
			want := syndromeOf(c, p)
			equal(t, p+" by "+short(c), syndrome(t, c, p), want)
			equal(t, "with the other sign", syndrome(t, c, "-"+p[1:]), want)
		}
	}
}

// Errors without order, of as many qubits as there may be. Signs of generators don't
// matter, either.
func TestSyndromesOfManyErrors(t *testing.T) {
	t.Parallel()
	for i := range 1000 {
		n := noise(i)
		c := n.some(12)
		p := n.pauli(c.N)
		got := syndrome(t, c, p)
		equal(t, p+" by "+short(c), got, syndromeOf(c, p))
		for j, gen := range c.Gens {
			c.Gens[j] = "+-"[n.below(2):][:1] + gen[1:]
		}
		equal(t, "other signs", syndrome(t, c, p), got)
	}
	for _, c := range known() {
		for _, gen := range c.Gens {
			equal(t, "a generator", syndrome(t, c, gen), make([]int, len(c.Gens)))
		}
		equal(t, "nothing", syndrome(t, c, idle(c.N)), make([]int, len(c.Gens)))
	}
}

func TestErrorsThatAreNoPaulis(t *testing.T) {
	for _, c := range []api.Code{of(2, ""), of(2, "+ZZ"), of(2, "-XX -ZZ")} {
		for _, text := range []string{
			"", "+", "-", "X", "XX", "XXX", "+X", "-Z", "+XXX", "++X", "+X+", "XX+", "+xX", "+Xz", "+XQ", "*XX", " XX", "+X ", " +XX", "+XX ", "+XX\n",
			"\n+XX", "+X\x00", "+é", "+Xé", "−XX", "+11", "+HH", "iXX", "±XX", "+IXY", strings.Repeat("X", 1<<20),
		} {
			got, f := code.Syndrome(c, text)
			equal(t, "no Pauli: "+short(text), []any{got, f}, []any{[]int{}, fault(api.ErrPauli, 0)})
		}
	}
	for a := range 256 {
		for b := range 256 {
			text := string([]byte{byte(a), byte(b)})
			_, f := code.Syndrome(of(1, "+X"), text)
			if (f == none) != isPauli(text, 1) || f != none && f != fault(api.ErrPauli, 0) {
				t.Errorf("Syndrome of %q: %v", text, f)
			}
		}
	}
	for qubits := 1; qubits <= api.MaxCode; qubits++ {
		for other := 1; other <= api.MaxCode; other++ {
			_, f := code.Syndrome(api.Code{N: qubits}, idle(other))
			equal(t, "a Pauli of other qubits", f == none, qubits == other)
		}
	}
}

func TestDistancesThatAreKnown(t *testing.T) {
	for _, tried := range []struct {
		c    api.Code
		want int
	}{
		{five, 3}, {seven, 3}, {nine, 3}, {four, 2}, {eight, 3},
		{of(5, "-XZZXI +IXZZX -XIXZZ -ZXIXZ"), 3}, {of(4, "-XXXX -ZZZZ"), 2},
		{of(3, "+ZZI +IZZ"), 1}, {of(3, "-XXI +IXX"), 1}, {of(1, ""), 1}, {of(9, ""), 1}, {of(2, "+ZI"), 1}, {of(2, "-ZZ"), 1},
		{of(6, "+XXXXXX +ZZZZZZ"), 2}, {of(8, "+XXXXXXXX -ZZZZZZZZ"), 2}, {of(3, "+XXX"), 1},
		// Where as many generators as qubits are, all that shows nowhere is in the group.
		{of(1, "+X"), 0}, {of(1, "-Y"), 0}, {of(2, "+XX +ZZ"), 0}, {of(2, "-XI -IZ"), 0},
		{of(5, "+XZZXI +IXZZX +XIXZZ +ZXIXZ -XXXXX"), 0}, {of(3, "+XXX +ZZI -IZZ"), 0},
	} {
		equal(t, "Distance of "+short(tried.c), distance(t, tried.c), tried.want)
	}
	for qubits := 1; qubits <= 9; qubits++ {
		for i := range 4 {
			n := noise(i)
			equal(t, "as many as qubits", distance(t, n.code(qubits, qubits)), 0)
			equal(t, "one less", distance(t, n.code(qubits, qubits-1)) > 0, true)
		}
	}
}

// Codes without order.
func TestDistancesOfManyCodes(t *testing.T) {
	t.Parallel()
	seen := map[int]int{}
	for i := range 900 {
		n := noise(i)
		c := n.some(4)
		if i%9 == 0 {
			c = n.twisted([]api.Code{four, five, seven}[i/9%3])
		}
		want := distanceOf(c)
		seen[want]++
		equal(t, "Distance of "+short(c), distance(t, c), want)
	}
	for i := range 3 {
		n := noise(i)
		for qubits := 8; qubits <= 9; qubits++ {
			c := n.code(qubits, qubits-1-i)
			equal(t, "Distance of "+short(c), distance(t, c), distanceOf(c))
		}
	}
	for want := range 4 {
		equal(t, fmt.Sprint("codes of distance ", want), seen[want] > 0, true)
	}
}

// Distance does not hang on signs, nor on the order of generators, nor on which
// products of them are told.
func TestDistanceIsTheGroups(t *testing.T) {
	t.Parallel()
	for i := range 100 {
		n := noise(i)
		c := n.code(5+i%3, 2+i%4)
		want := distance(t, c)
		other := api.Code{N: c.N}
		for j, gen := range c.Gens {
			for _, behind := range c.Gens[j+1:] {
				if n.below(2) == 0 {
					gen = product(gen, behind)
				}
			}
			other.Gens = append(other.Gens, "+-"[n.below(2):][:1]+gen[1:])
		}
		slices.Reverse(other.Gens)
		equal(t, short(other), distance(t, other), want)
	}
}

func TestDistanceAndDecodeOfTooManyQubits(t *testing.T) {
	for qubits := 10; qubits <= api.MaxCode; qubits++ {
		for _, gens := range []int{0, 1, qubits - 1, qubits} {
			n := noise(gens)
			c := n.code(qubits, gens)
			least, f := code.Distance(c)
			equal(t, "Distance", []any{least, f}, []any{0, fault(api.ErrMany, 0)})
			for _, list := range [][]int{nil, {2, 3}, make([]int, gens), make([]int, gens+1), slices.Repeat([]int{7}, gens)} {
				mend, f := code.Decode(c, list)
				equal(t, "Decode", []any{mend, f}, []any{"", fault(api.ErrMany, 0)})
			}
		}
	}
	equal(t, "just not too many", distance(t, nine), 3)
	equal(t, "just not too many", decode(t, nine, bits(1, 8)), "+XIIIIIIII")
}

// decodes holds Decode to all that is promised, for every syndrome.
func decodes(t *testing.T, c api.Code) {
	t.Helper()
	want := leasts(c)
	equal(t, "each syndrome can be", len(want), 1<<len(c.Gens))
	for which := range 1 << len(c.Gens) {
		list := bits(which, len(c.Gens))
		got := decode(t, c, list)
		equal(t, fmt.Sprint("Decode of ", list, " by ", c), got, want[fmt.Sprint(list)])
		equal(t, "the syndrome of what is decoded", syndrome(t, c, got), list)
	}
}

func TestDecodeOfEverySyndrome(t *testing.T) {
	t.Parallel()
	for _, c := range known() {
		decodes(t, c)
	}
	for i := range 300 {
		n := noise(i)
		decodes(t, n.some(5))
	}
	for i := range 4 {
		n := noise(i)
		decodes(t, n.code(6+i, 3+n.below(4)))
		decodes(t, n.code(6+i, 6+i))
	}
}

// Of several errors of one weight the first is told: I ahead of X, X of Y, Y of Z, and
// qubit 0 counts most.
func TestDecodeOfSeveral(t *testing.T) {
	for _, tried := range []struct {
		c    api.Code
		list []int
		want string
	}{
		{of(2, "+ZZ"), []int{1}, "+IX"},
		{of(2, "+XX"), []int{1}, "+IY"},
		{of(2, "+YY"), []int{1}, "+IX"},
		{of(2, "+ZI"), []int{1}, "+XI"},
		{of(2, "+XI"), []int{1}, "+YI"},
		{of(3, "+ZZZ"), []int{1}, "+IIX"},
		{of(3, "+ZZI"), []int{1}, "+IXI"},
		{of(4, "+XXXX +ZZZZ"), []int{1, 1}, "+IIIY"},
		{of(4, "+XXXX +ZZZZ"), []int{1, 0}, "+IIIZ"},
		{of(4, "+ZZII +IIZZ"), []int{1, 1}, "+IXIX"},
		{of(2, "+ZI +IZ"), []int{1, 1}, "+XX"},
		{of(2, "+XI +IX"), []int{1, 1}, "+YY"},
		{of(2, "-XX -ZZ"), []int{1, 1}, "+IY"},
		{of(3, "+YYI +IYY"), []int{0, 1}, "+IIX"},
		{of(1, ""), nil, "+I"},
		{of(9, ""), []int{}, "+IIIIIIIII"},
		{seven, bits(0b001001, 6), "+IIIYIII"},
		{seven, bits(0b001010, 6), "+IIIYIZI"},
	} {
		equal(t, fmt.Sprint(tried.c, tried.list), decode(t, tried.c, tried.list), tried.want)
	}
}

func TestSyndromesThatAreNone(t *testing.T) {
	odd := []int{math.MinInt64, -1, 2, 3, 256, 1 << 32, math.MaxInt64}
	for _, c := range known() {
		gens := len(c.Gens)
		for length := range gens + 4 {
			if length != gens {
				for _, list := range [][]int{make([]int, length), slices.Repeat([]int{2}, length)} {
					mend, f := code.Decode(c, list)
					equal(t, "length", []any{mend, f}, []any{"", fault(api.ErrSize, 0)})
				}
			}
		}
		for at := range gens {
			for _, number := range odd {
				list := slices.Repeat([]int{1}, gens)
				list[at] = number
				mend, f := code.Decode(c, list)
				equal(t, "no outcome", []any{mend, f}, []any{"", fault(api.ErrOutcome, at)})
				list[gens-1] = number
				_, f = code.Decode(c, list)
				equal(t, "the first", f, fault(api.ErrOutcome, at))
			}
		}
	}
	_, f := code.Decode(five, make([]int, 1<<20))
	equal(t, "very long", f, fault(api.ErrSize, 0))
}

// All faults of Decode at once, mended one by one.
func TestTheFirstFaultOfDecodeIsTold(t *testing.T) {
	c, list := of(10, "+XX +YY +ZZ"), []int{3, 1, 0, 2}
	for i, step := range []struct {
		want api.Fault
		mend func()
	}{
		{fault(api.ErrPauli, 0), func() { c = of(10, "+XXIIIIIIII +YYIIIIIIII +ZZIIIIIIII") }},
		{fault(api.ErrDepend, 2), func() { c.Gens[2] = "+IIIIIIIIIZ" }},
		{fault(api.ErrMany, 0), func() { c = of(9, "+XXIIIIIII +YYIIIIIII +IIIIIIIIZ") }},
		{fault(api.ErrSize, 0), func() { list = list[:2] }},
		{fault(api.ErrSize, 0), func() { list = []int{3, 1, 2} }},
		{fault(api.ErrOutcome, 0), func() { list[0] = 0 }},
		{fault(api.ErrOutcome, 2), func() { list[2] = 1 }},
	} {
		mend, f := code.Decode(c, list)
		equal(t, fmt.Sprint("step ", i), []any{mend, f}, []any{"", step.want})
		step.mend()
	}
	equal(t, "all mended", decode(t, c, list), "+IXIIIIIIX")
}

// What follows: an error on fewer qubits than half of the distance is mended, but for
// what is in the group.
func TestSmallErrorsAreMended(t *testing.T) {
	t.Parallel()
	codes := append(known(), patch(t, 3, 3), of(5, "+XZZXI -IXZZX +XIXZZ -ZXIXZ"))
	for i := range 30 {
		n := noise(i)
		codes = append(codes, n.twisted(five), n.twisted(seven), n.twisted(eight), n.code(6, 4+n.below(2)))
	}
	mended := 0
	for _, c := range codes {
		least, group := distance(t, c), groupOf(c.N, c.Gens)
		for _, p := range append(single(c.N), idle(c.N)) {
			if 2*weight(p) >= least {
				continue
			}
			got := decode(t, c, syndrome(t, c, p))
			equal(t, p+" mended by "+short(c), group[product(got, p)], true)
			mended += weight(p)
		}
	}
	equal(t, "errors on a qubit were mended", mended > 1500, true)
}

// single are all errors on one qubit.
func single(qubits int) []string {
	var out []string
	for q := range qubits {
		for _, letter := range []string{"X", "Y", "Z"} {
			out = append(out, "+"+strings.Repeat("I", q)+letter+strings.Repeat("I", qubits-q-1))
		}
	}
	return out
}
