package ring_test

import (
	"math"
	"reflect"
	"strings"
	"testing"

	"qloom/ring"
	"qloom/whole"
)

// edgeNumbers have been made in unlike ways, and are short, long, 0, and far below 1.
func edgeNumbers(t *testing.T) []ring.Num {
	t.Helper()
	refused, fault := ring.Parse("x")
	if fault == none {
		t.Fatal("x is taken for a number")
	}
	wide, _ := ring.Make([]int{1, 1}, math.MaxInt64)
	longest := number(t, digits(1000)+",0,-"+digits(999)+"/10000")
	far := number(t, "1/10000").Mul(number(t, "0,1/10000")).Half()
	out := []ring.Num{
		{}, refused, wide, ring.Rt(), ring.Root(math.MinInt64), ring.Of(whole.Int{}), ring.Of(whole.Of(math.MinInt64)), longest, longest.Neg(),
		longest.Sub(longest), longest.Norm(), far, far.Conj(), far.Add(longest), make8(t, -10000, 1, 2, 3), make8(t, 10000, math.MinInt64, math.MaxInt64),
	}
	return out
}

// answers are all that the calls say of two numbers, as texts or plain data.
func answers(a, b ring.Num) []any {
	x, ok := a.Rational()
	out := []any{
		a.Text(), a.Neg().Text(), a.Conj().Text(), a.Add(b).Text(), a.Sub(b).Text(), a.Mul(b).Text(), a.Half().Text(), a.Zero(),
		a.Same(b), a.Norm().Text(), a.Depth(), a.Even(), x.Text(), ok,
	}
	for _, k := range []int{math.MinInt64, -17, -1, 0, 1, 8, 16, 17, math.MaxInt64} {
		out = append(out, a.Turn(k).Text())
	}
	return out
}

// Each call is made twice, with the same arguments: it must end, must not
// panic, and must say the same; the arguments must be what they were.
func TestCallsHangOnTheirArgumentsAlone(t *testing.T) {
	numbers := edgeNumbers(t)
	for _, a := range numbers {
		for _, b := range numbers {
			before := a.Text() + " " + b.Text()
			if !reflect.DeepEqual(answers(a, b), answers(a, b)) {
				t.Errorf("two answers of %.30s and %.30s", a.Text(), b.Text())
			}
			equal(t, "arguments", a.Text()+" "+b.Text(), before)
		}
	}
}

func TestNoTextIsTooStrange(t *testing.T) {
	texts := []string{
		"", "\x00", "\xff\xfe", "-", ",", "/", "-/-", "0/0", strings.Repeat("-", 5000), strings.Repeat(",", 5000), strings.Repeat("/", 5000),
		strings.Repeat("0", 100000), strings.Repeat("9", 1000000), strings.Repeat("1,", 100000), strings.Repeat("1/", 100000), "1/" + digits(1000000),
	}
	for b := range 256 {
		s := string([]byte{byte(b)})
		texts = append(texts, s, "-"+s, "1"+s, "1,"+s, "1/"+s, "1/2"+s, "0,0,0,0,0,0,0,1"+s)
	}
	for _, text := range texts {
		a, fault := ring.Parse(text)
		b, again := ring.Parse(text)
		equal(t, text, fault, again)
		equal(t, text, a.Text(), b.Text())
	}
}

// One number is kept in just one way, however it was come by.
func TestEqualNumbersAreKeptAlike(t *testing.T) {
	a := number(t, "3,-1,4,-1,5,-9,2,"+digits(300)+"/7")
	two := number(t, "2")
	for i, pair := range [][2]ring.Num{
		{a.Sub(a), {}}, {a.Half().Half().Mul(two), a}, {a.Turn(5).Turn(-5), a}, {a.Turn(16), a}, {a.Turn(8), a.Neg()}, {a.Conj().Conj(), a},
		{a.Add(a).Sub(a), a}, {a.Add(a), a.Mul(two)}, {make8(t, 10000), {}}, {make8(t, 5, 0, 64), make8(t, 0, 0, 2)}, {ring.Rt().Mul(ring.Rt()), make8(t, 1, 1)},
		{ring.Root(16), ring.Of(whole.Of(1))}, {number(t, "0"), {}}, {a.Mul(ring.Num{}), {}}, {ring.Num{}.Half(), {}},
	} {
		if !reflect.DeepEqual(pair[0], pair[1]) {
			t.Errorf("pair %d: %.30s is kept in two ways", i, pair[0].Text())
		}
		equal(t, "Same", pair[0].Same(pair[1]), true)
	}
}

// Numbers get longer, and powers greater, than Parse and Make take them.
func TestNumbersGetAsLongAsTheyMust(t *testing.T) {
	tiny := number(t, "1/10000")
	for range 3 {
		tiny = tiny.Mul(tiny)
	}
	equal(t, "a great power", tiny.Text(), "1/80000")
	equal(t, "its Depth", tiny.Depth(), 160000)
	one := number(t, "1")
	sum := one.Add(tiny)
	equal(t, "1, and that", sum.Text(), modelOf("1").plus(modelOf("1/80000"), 1).text())
	equal(t, "less 1 again", sum.Sub(one).Same(tiny), true)
	equal(t, "less that", sum.Sub(tiny).Text(), "1")
	x, ok := tiny.Rational()
	above, below := x.Parts()
	equal(t, "Rational", ok, true)
	equal(t, "above the bar", above.Text(), "1")
	equal(t, "below the bar", below.Twos(), 80000)
	equal(t, "below the bar", ring.Of(below).Mul(tiny).Text(), "1")
}

// Each product may double the power: soon no int holds it.
func TestPowersThatNoIntHolds(t *testing.T) {
	a, power := number(t, "0,1/1"), whole.Of(1)
	for range 70 {
		a, power = a.Mul(a), power.Add(power)
	}
	want := "1/" + power.Text()
	equal(t, "squared", a.Text(), want)
	equal(t, "with nought", a.Add(ring.Num{}).Text(), want)
	equal(t, "nought with it", ring.Num{}.Sub(a).Text(), "-"+want)
	equal(t, "less itself", a.Sub(a).Text(), "0")
	equal(t, "twice", a.Add(a).Text(), "1/"+power.Sub(whole.Of(1)).Text())
	equal(t, "Half twice", a.Half().Half().Text(), "1/"+power.Add(whole.Of(1)).Text())
	equal(t, "Same", a.Same(number(t, "1")), false)
	equal(t, "Conj", a.Turn(3).Conj().Text(), "0,0,0,0,0,-1/"+power.Text())
}

// Sums, products and mirrors hang together, whatever the numbers are.
func TestLawsOfNumbers(t *testing.T) {
	seed := noise(11)
	for range 200 {
		a, b, c := number(t, seed.text(25)), number(t, seed.text(25)), number(t, seed.text(2))
		equal(t, "a b", a.Mul(b).Same(b.Mul(a)), true)
		equal(t, "a + b", a.Add(b).Same(b.Add(a)), true)
		equal(t, "(a b) c", a.Mul(b).Mul(c).Same(a.Mul(b.Mul(c))), true)
		equal(t, "a (b + c)", a.Mul(b.Add(c)).Same(a.Mul(b).Add(a.Mul(c))), true)
		equal(t, "the mirror of a b", a.Mul(b).Conj().Same(a.Conj().Mul(b.Conj())), true)
		equal(t, "the norm of a b", a.Mul(b).Norm().Same(a.Norm().Mul(b.Norm())), true)
		equal(t, "Half", a.Half().Mul(b).Same(a.Mul(b.Half())), true)
	}
}
