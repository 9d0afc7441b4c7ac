package whole_test

import (
	"math"
	"reflect"
	"strings"
	"testing"

	"qloom/whole"
)

// edgeNumbers have been made in unlike ways, and are short, long, 0 and below it.
func edgeNumbers(t *testing.T) []whole.Int {
	t.Helper()
	long := number(t, digits(900))
	far, _ := whole.Of(-1).Shift(10000)
	_, rest, _ := whole.Of(5).Div(long)
	_, refused := whole.Parse("x")
	if refused == none {
		t.Fatal("x is taken for a number")
	}
	return []whole.Int{
		{}, whole.Of(0), whole.Of(1), whole.Of(-1), whole.Of(math.MaxInt64), whole.Of(math.MinInt64),
		long, long.Neg(), long.Sub(long), long.Mul(long), far, rest, far.Add(whole.Of(1)), number(t, "18446744073709551616"),
	}
}

func edgeFractions(t *testing.T) []whole.Frac {
	t.Helper()
	out := []whole.Frac{{}}
	numbers := edgeNumbers(t)
	for i, a := range numbers {
		x, _ := whole.Over(a, numbers[(i+5)%len(numbers)])
		out = append(out, x, x.Sub(x))
	}
	return out
}

// answersOfInts are all that the calls say of two numbers, as texts or plain data.
func answersOfInts(a, b whole.Int) []any {
	q, r, divFault := a.Div(b)
	x, overFault := whole.Over(a, b)
	small, ok := a.Small()
	out := []any{
		a.Text(), a.Sign(), a.Cmp(b), a.Neg().Text(), a.Add(b).Text(), a.Sub(b).Text(), a.Mul(b).Text(), a.Twos(), small, ok,
		q.Text(), r.Text(), divFault, whole.Gcd(a, b).Text(), x.Text(), overFault, whole.Near(x, b).Text(),
	}
	for _, n := range []int{math.MinInt64, -10001, -10000, -64, -1, 0, 1, 64, 10000, 10001, math.MaxInt64} {
		shifted, fault := a.Shift(n)
		out = append(out, shifted.Text(), fault)
	}
	return out
}

func answersOfFracs(x, y whole.Frac) []any {
	above, below := x.Parts()
	quotient, fault := x.Quo(y)
	return []any{
		x.Text(), above.Text(), below.Text(), x.Cmp(y), x.Add(y).Text(), x.Sub(y).Text(), x.Mul(y).Text(), quotient.Text(), fault,
		whole.Near(x, below).Text(), whole.Near(x, above).Text(),
	}
}

func answersOfTexts(text string) []any {
	n, fault := whole.Parse(text)
	x, fracFault := whole.ParseFrac(text)
	return []any{n.Text(), fault, x.Text(), fracFault}
}

// Each call is made twice, with the same arguments: it must end, must not
// panic, and must say the same; the arguments must be what they were.
func TestCallsHangOnTheirArgumentsAlone(t *testing.T) {
	numbers := edgeNumbers(t)
	for _, a := range numbers {
		for _, b := range numbers {
			before := a.Text() + " " + b.Text()
			if !reflect.DeepEqual(answersOfInts(a, b), answersOfInts(a, b)) {
				t.Errorf("two answers of %.30s and %.30s", a.Text(), b.Text())
			}
			equal(t, "arguments", a.Text()+" "+b.Text(), before)
		}
	}
	fractions := edgeFractions(t)
	for _, x := range fractions {
		for _, y := range fractions {
			before := x.Text() + " " + y.Text()
			if !reflect.DeepEqual(answersOfFracs(x, y), answersOfFracs(x, y)) {
				t.Errorf("two answers of %.30s and %.30s", x.Text(), y.Text())
			}
			equal(t, "arguments", x.Text()+" "+y.Text(), before)
		}
	}
}

func TestNoTextIsTooStrange(t *testing.T) {
	texts := []string{
		"", "\x00", "\xff\xfe", "-", "--", "/", "//", "-/-", "0/0", "1/0", strings.Repeat("-", 5000), strings.Repeat("0", 100000),
		strings.Repeat("9", 1000000), strings.Repeat("9", 1000) + "/" + strings.Repeat("9", 100000), strings.Repeat("1/", 1000),
	}
	for b := range 256 {
		texts = append(texts, string([]byte{byte(b)}), "1"+string([]byte{byte(b)}), "3/4"+string([]byte{byte(b)}))
	}
	for _, text := range texts {
		if !reflect.DeepEqual(answersOfTexts(text), answersOfTexts(text)) {
			t.Errorf("two answers of %.30q", text)
		}
	}
}

// One number is kept in just one way, however it was come by.
func TestEqualNumbersAreKeptAlike(t *testing.T) {
	long := number(t, digits(600))
	_, below := whole.Near(over(1, 3), whole.Of(9)).Parts()
	there, _ := long.Shift(777)
	back, _ := there.Shift(-777)
	quotient, _, _ := long.Mul(long).Div(long)
	for _, pair := range [][2]whole.Int{
		{back, long}, {quotient, long}, {long.Neg().Neg(), long}, {long.Add(long).Sub(long), long},
		{long.Sub(long.Sub(whole.Of(1))), whole.Of(1)}, {whole.Int{}, long.Sub(long)}, {below, whole.Of(3)},
	} {
		if !reflect.DeepEqual(pair[0], pair[1]) {
			t.Errorf("%.30s is kept in two ways", pair[0].Text())
		}
	}
	for _, pair := range [][2]whole.Frac{
		{over(2, 4), over(-1, -2)}, {over(0, 3), {}}, {fraction(t, "0"), {}}, {over(1, 2).Sub(over(1, 2)), {}},
		{fraction(t, "3"), over(6, 2)}, {whole.Near(over(1, 3), whole.Of(1)), {}},
	} {
		if !reflect.DeepEqual(pair[0], pair[1]) {
			t.Errorf("%s is kept in two ways", pair[0].Text())
		}
	}
}
