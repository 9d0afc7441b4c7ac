package code_test

import (
	"fmt"
	"math/big"
	"strings"
	"testing"

	"qloom/api"
	"qloom/code"
)

// failsSummed holds Fails to the sum over all errors.
func failsSummed(t *testing.T, c api.Code, chance string) {
	t.Helper()
	number, ok := new(big.Rat).SetString(chance)
	if !ok {
		t.Fatalf("no fraction: %s", short(chance))
	}
	equal(t, fmt.Sprint("Fails of ", c, " with ", chance), fails(t, c, chance), failsOf(c, number).RatString())
}

// chances are some from 0 to a third.
func chances() []string {
	return []string{"0", "1/3", "1/4", "1/5", "1/10", "2/7", "3/10", "1/100", "99/298", "333333/1000000", "1/1000000007"}
}

func TestFailsOfKnownCodes(t *testing.T) {
	t.Parallel()
	for _, c := range known() {
		for _, chance := range chances() {
			if c.N <= 5 {
				failsSummed(t, c, chance)
			}
		}
	}
	failsSummed(t, of(6, "+XXXXXX +ZZZZZZ"), "1/10")
	failsSummed(t, of(6, "+ZZIIII +IZZIII +IIIZZI +IIIIZZ +XXXXXX"), "2/7")
	failsSummed(t, of(6, ""), "1/3")
}

// Chances that can be reckoned by hand.
func TestFailsByHand(t *testing.T) {
	for _, tried := range []struct {
		c            api.Code
		chance, want string
	}{
		{of(1, ""), "1/10", "3/10"}, {of(1, ""), "1/3", "1"}, {of(1, ""), "0", "0"}, {of(1, ""), "1/4", "3/4"},
		// All that shows nowhere is in the group.
		{of(1, "+Z"), "1/5", "0"}, {of(1, "-X"), "1/3", "0"}, {of(2, "+XX -ZZ"), "1/10", "0"},
		// All but nothing fails: 1 - (1 - 3t)^2.
		{of(2, ""), "1/10", "51/100"},
		// Of +ZI: what fails has a letter at qubit 1.
		{of(2, "+ZI"), "1/10", "3/10"}, {of(2, "-YI"), "1/4", "3/4"},
		// With chance 1/4 all errors come alike often: of each syndrome as many are mended
		// as are in the group, with g generators 4^g of 4^n in all.
		{of(3, "+ZZI +IZZ"), "1/4", "3/4"}, {five, "1/4", "3/4"}, {four, "1/4", "15/16"}, {of(6, "-XXXXXX"), "1/4", "1023/1024"},
	} {
		equal(t, fmt.Sprint(tried.c, " with ", tried.chance), fails(t, tried.c, tried.chance), tried.want)
	}
	// Without errors all is mended, whatever the code is.
	for i := range 50 {
		n := noise(i)
		equal(t, "no errors", fails(t, n.some(6), "0"), "0")
	}
}

// Codes without order, with chances without order.
func TestFailsOfManyCodes(t *testing.T) {
	t.Parallel()
	for i := range 250 {
		n := noise(i)
		below := 3 + n.below(1000)
		chance := big.NewRat(int64(n.below(below/3+1)), int64(below))
		failsSummed(t, n.some(4), chance.RatString())
	}
	for i := range 12 {
		n := noise(i)
		failsSummed(t, n.code(5+i%2, n.below(6)), chances()[2+i%9])
	}
}

// Signs of generators, and their order, don't matter: what Decode tells of a syndrome
// is the same error.
func TestFailsIsTheGroups(t *testing.T) {
	for i := range 50 {
		n := noise(i)
		c := n.some(6)
		want := fails(t, c, "2/11")
		for j, gen := range c.Gens {
			c.Gens[j] = "+-"[n.below(2):][:1] + gen[1:]
			k := n.below(j + 1)
			c.Gens[j], c.Gens[k] = c.Gens[k], c.Gens[j]
		}
		equal(t, short(c), fails(t, c, "2/11"), want)
	}
}

// failsRefused holds Fails to a fault, beside which nothing is answered.
func failsRefused(t *testing.T, c api.Code, chance string, want api.Fault) {
	t.Helper()
	got, f := code.Fails(c, chance)
	equal(t, "Fails of "+short(c)+" with "+short(chance), []any{got, f}, []any{"", want})
}

func TestChancesThatAreNoFractions(t *testing.T) {
	for qubits := 1; qubits <= api.MaxCode; qubits++ {
		for _, text := range []string{
			"", " ", "x", "-", "+", "/", "0.1", ".1", "1/", "/3", "1/0", "0/", "1/-3", "-", "-0", "+1/10", " 1/10", "1/10 ", "1/10\n", "1 /10", "1/ 10", "01/10", "1/010",
			"1//10", "1/10/2", "1e-1", "0x1", "1/3x", "½", "1/٣", "00", "1,10", "10%", "--1", "1/10\x00",
			// No fraction as it is written: not in lowest terms, or with 1 below the bar.
			"2/4", "0/1", "0/5", "1/1", "2/20", "-2/20", "3/9", "5/1", "4/2",
			// Longer than a number may be.
			strings.Repeat("1", api.MaxDigits+1), "1/" + strings.Repeat("7", api.MaxDigits+1), "1/" + strings.Repeat("7", 1<<20), strings.Repeat("/", 1<<20),
		} {
			failsRefused(t, api.Code{N: qubits}, text, fault(api.ErrText, 0))
		}
	}
}

func TestChancesOutsideTheirRange(t *testing.T) {
	for qubits := 1; qubits <= api.MaxCode; qubits++ {
		for _, text := range []string{
			"-1", "-1/3", "-1/10", "-1/1000000007", "1", "2", "1/2", "2/5", "333334/999999", "166667/500000", "34/101", "3333333334/9999999999",
			"-" + strings.Repeat("9", api.MaxDigits), strings.Repeat("9", api.MaxDigits), "1" + strings.Repeat("0", 998) + "1/3" + strings.Repeat("0", 999),
			"-1/" + strings.Repeat("7", api.MaxDigits),
		} {
			failsRefused(t, api.Code{N: qubits}, text, fault(api.ErrRange, 0))
		}
		for _, text := range append(chances(), "1"+strings.Repeat("0", 999)+"/3"+strings.Repeat("0", 998)+"1", "1/"+strings.Repeat("7", api.MaxDigits)) {
			if qubits > 6 {
				failsRefused(t, api.Code{N: qubits}, text, fault(api.ErrMany, 0))
			} else {
				fails(t, api.Code{N: qubits}, text)
			}
		}
	}
}

// Codes of more than six qubits, with any number of generators.
func TestFailsOfTooManyQubits(t *testing.T) {
	for qubits := 5; qubits <= api.MaxCode; qubits++ {
		for gens := range qubits + 1 {
			n := noise(gens)
			c := n.code(qubits, gens)
			if qubits > 6 {
				failsRefused(t, c, "1/10", fault(api.ErrMany, 0))
				failsRefused(t, c, "0", fault(api.ErrMany, 0))
			} else {
				fails(t, c, "1/10")
			}
		}
	}
}

// All faults of Fails at once, mended one by one.
func TestTheFirstFaultOfFailsIsTold(t *testing.T) {
	c, chance := of(7, "+XXXXXXX +ZZZZZZZ"), "4/8"
	for i, step := range []struct {
		want api.Fault
		mend func()
	}{
		{fault(api.ErrCommute, 1), func() { c.Gens[1] = "-ZZIIIII" }},
		{fault(api.ErrText, 0), func() { chance = "1/2" }},
		{fault(api.ErrRange, 0), func() { chance = "-1/4" }},
		{fault(api.ErrRange, 0), func() { chance = "1/4" }},
		{fault(api.ErrMany, 0), func() { c = of(6, "+XXXXXX -ZZIIII") }},
	} {
		got, f := code.Fails(c, chance)
		equal(t, fmt.Sprint("step ", i), []any{got, f}, []any{"", step.want})
		step.mend()
	}
	equal(t, "all mended", fails(t, c, chance), "255/256")
}

// Numbers as long as they may be.
func TestFailsOfLongNumbers(t *testing.T) {
	long := "1" + strings.Repeat("0", 998) + "3/9" + strings.Repeat("7", 999)
	number, _ := new(big.Rat).SetString(long)
	long = number.RatString()
	failsSummed(t, of(3, "+ZZI -IZZ"), long)
	got, f := code.Fails(of(6, "+XXXXXX +ZZZZZZ"), long)
	equal(t, "of six qubits", []any{len(got) > 10000, f}, []any{true, none})
	// A third but for the least that can be written.
	near := strings.Repeat("3", 999) + "/1" + strings.Repeat("0", 999)
	failsSummed(t, of(2, "+ZZ"), near)
	past := strings.Repeat("3", 998) + "4/1" + strings.Repeat("0", 999)
	number, _ = new(big.Rat).SetString(past)
	failsRefused(t, of(2, "+ZZ"), number.RatString(), fault(api.ErrRange, 0))
}
