package whole_test

import (
	"math"
	"math/big"
	"regexp"
	"strings"
	"testing"

	"qloom/api"
	"qloom/whole"
)

func over(a, b int) whole.Frac {
	x, _ := whole.Over(whole.Of(a), whole.Of(b))
	return x
}

func TestZeroFracIsNought(t *testing.T) {
	var x whole.Frac
	above, below := x.Parts()
	equal(t, "Parts", above.Text()+" "+below.Text(), "0 1")
	equal(t, "Text", x.Text(), "0")
	equal(t, "Cmp", x.Cmp(whole.Frac{}), 0)
	equal(t, "Cmp", x.Cmp(over(-1, 2)), 1)
	equal(t, "Cmp", over(-1, 2).Cmp(x), -1)
	equal(t, "Add", x.Add(over(1, 2)).Text(), "1/2")
	equal(t, "Add to", over(1, 2).Add(x).Text(), "1/2")
	equal(t, "Sub", x.Sub(over(1, 2)).Text(), "-1/2")
	equal(t, "Sub from", over(1, 2).Sub(x).Text(), "1/2")
	equal(t, "Mul", x.Mul(over(1, 2)).Text(), "0")
	quotient, fault := x.Quo(over(1, 2))
	equal(t, "Quo", quotient.Text(), "0")
	equal(t, "Quo's fault", fault, none)
	equal(t, "Near", whole.Near(x, whole.Int{}).Text(), "0")
	equal(t, "made", over(0, -7).Cmp(x), 0)
	equal(t, "made", over(0, -7).Text(), "0")
}

func TestOver(t *testing.T) {
	for _, c := range []struct {
		a, b int
		want string
	}{
		{1, 2, "1/2"}, {2, 4, "1/2"}, {-2, 4, "-1/2"}, {2, -4, "-1/2"}, {-2, -4, "1/2"}, {6, 3, "2"}, {6, -3, "-2"},
		{0, 5, "0"}, {0, -5, "0"}, {5, 1, "5"}, {5, -1, "-5"}, {7, 7, "1"}, {math.MinInt64, math.MinInt64, "1"},
		{1, math.MinInt64, "-1/9223372036854775808"}, {math.MinInt64, -1, "9223372036854775808"},
	} {
		x, fault := whole.Over(whole.Of(c.a), whole.Of(c.b))
		equal(t, "Over", x.Text(), c.want)
		equal(t, "Over's fault", fault, none)
	}
	for _, a := range []int{0, 1, -3} {
		x, fault := whole.Over(whole.Of(a), whole.Int{})
		equal(t, "by 0", fault, api.Fault{Code: api.ErrZero})
		equal(t, "by 0", x.Text(), "0")
	}
}

func TestOverOfMany(t *testing.T) {
	all := pairs()
	for _, p := range all {
		for _, q := range all {
			if q.big.Sign() == 0 {
				continue
			}
			x, fault := whole.Over(p.n, q.n)
			equal(t, "fault", fault, none)
			isRat(t, "Over", x, new(big.Rat).SetFrac(p.big, q.big))
		}
	}
}

// ratio is a fraction in two forms.
type ratio struct {
	x   whole.Frac
	big *big.Rat
}

func ratios() []ratio {
	var out []ratio
	numbers := pool()
	for i, a := range numbers {
		for _, step := range []int{1, 6, 31} {
			b := numbers[(i*step+7)%len(numbers)]
			if b.Sign() != 0 {
				x, _ := whole.Over(fromBig(a), fromBig(b))
				out = append(out, ratio{x, new(big.Rat).SetFrac(a, b)})
			}
		}
	}
	return append(out, ratio{whole.Frac{}, new(big.Rat)})
}

func TestTwoFractions(t *testing.T) {
	all := ratios()
	for i, p := range all {
		for j := i % 29; j < len(all); j += 29 {
			q := all[j]
			equal(t, "Cmp", p.x.Cmp(q.x), p.big.Cmp(q.big))
			isRat(t, "Add", p.x.Add(q.x), new(big.Rat).Add(p.big, q.big))
			isRat(t, "Sub", p.x.Sub(q.x), new(big.Rat).Sub(p.big, q.big))
			isRat(t, "Mul", p.x.Mul(q.x), new(big.Rat).Mul(p.big, q.big))
			quotient, fault := p.x.Quo(q.x)
			if q.big.Sign() == 0 {
				equal(t, "by 0", fault, api.Fault{Code: api.ErrZero})
				equal(t, "by 0", quotient.Text(), "0")
				continue
			}
			equal(t, "fault", fault, none)
			isRat(t, "Quo", quotient, new(big.Rat).Quo(p.big, q.big))
		}
	}
}

func TestFractionsCancel(t *testing.T) {
	half, third := over(1, 2), over(1, 3)
	equal(t, "a half twice", half.Add(half).Text(), "1")
	equal(t, "less itself", third.Sub(third).Text(), "0")
	equal(t, "less itself", third.Sub(third).Cmp(whole.Frac{}), 0)
	equal(t, "times what turns it over", over(-7, 3).Mul(over(-3, 7)).Text(), "1")
	quotient, _ := over(-7, 3).Quo(over(-7, 3))
	equal(t, "by itself", quotient.Text(), "1")
	quotient, _ = over(1, 2).Quo(over(-1, 3))
	equal(t, "by what is below 0", quotient.Text(), "-3/2")
	_, fault := half.Quo(third.Sub(third))
	equal(t, "by 0", fault, api.Fault{Code: api.ErrZero})
	sum, add := whole.Frac{}, whole.Frac{}
	for n := 1; n <= 300; n++ {
		add = over(1, n*(n+1))
		sum = sum.Add(add)
		equal(t, "a sum", sum.Cmp(over(n, n+1)), 0)
	}
}

func TestParseFrac(t *testing.T) {
	for _, text := range []string{
		"0", "1", "-1", "7", "1/2", "-1/2", "3/2", "-22/7", "1/10", "10/11", "12345678901234567890/7",
		digits(700) + "/" + "1" + strings.Repeat("0", 600), "-1/1" + strings.Repeat("0", 999),
	} {
		x, fault := whole.ParseFrac(text)
		equal(t, text, fault, none)
		equal(t, text, x.Text(), text)
	}
	above, below := fraction(t, "-6").Parts()
	equal(t, "a whole number's parts", above.Text()+" "+below.Text(), "-6 1")
	above, below = fraction(t, "-6/35").Parts()
	equal(t, "a fraction's parts", above.Text()+" "+below.Text(), "-6 35")
}

func TestParseFracRefusesTexts(t *testing.T) {
	for text, at := range map[string]int{
		"": 0, "-": 1, "-0": 1, "-0/5": 1, "007": 1, "12x": 2, "/": 0, "/2": 0, "-/2": 1, "1/": 2, "1/0": 2, "1/02": 2, "1/-2": 2,
		"1/+2": 2, "1/x": 2, "1/2x": 3, "1/2/3": 3, "1 /2": 1, "1/ 2": 2, "-12/34 ": 6, "1//2": 2, "0/": 2, "0/0": 2, "x/2": 0, "1/2\n": 3,
		"2/4x": 3, "00/2": 1,
	} {
		x, fault := whole.ParseFrac(text)
		equal(t, text, fault, api.Fault{Code: api.ErrText, At: at})
		equal(t, text, x.Text(), "0")
	}
}

func TestParseFracRefusesLongNumbers(t *testing.T) {
	most, more := digits(api.MaxDigits), digits(api.MaxDigits+1)
	for _, text := range []string{most, "-" + most, most + "/2", "-" + most + "/2", "2/" + most, "-2/" + most} {
		x, fault := whole.ParseFrac(text)
		equal(t, "as long as may be", fault, none)
		equal(t, "as long as may be", x.Text(), text)
	}
	for _, text := range []string{more, "-" + more, more + "/2", "-" + more + "/2", "2/" + more, more + "/1", "1/" + more, more + "/" + more, "0/" + more} {
		x, fault := whole.ParseFrac(text)
		equal(t, "too long", fault, api.Fault{Code: api.ErrLong, At: 0})
		equal(t, "too long", x.Text(), "0")
	}
	_, fault := whole.ParseFrac(more + "/0")
	equal(t, "neither", fault, api.Fault{Code: api.ErrText, At: len(more) + 1})
	_, fault = whole.ParseFrac(most + "/" + more + "x")
	equal(t, "neither", fault, api.Fault{Code: api.ErrText, At: len(most) + 1 + len(more)})
}

func TestParseFracRefusesForms(t *testing.T) {
	for _, text := range []string{
		"2/4", "-2/4", "4/2", "1/1", "-1/1", "5/1", "0/1", "0/5", "0/7", "6/35000000000000000000000", digits(800) + "/" + digits(800), "7/" + digits(1000),
	} {
		x, fault := whole.ParseFrac(text)
		equal(t, text, fault, api.Fault{Code: api.ErrForm, At: 0})
		equal(t, text, x.Text(), "0")
	}
}

func TestParseFracOfAllShortTexts(t *testing.T) {
	is := regexp.MustCompile(`^(0|-?[1-9][0-9]*)(/[1-9][0-9]*)?$`)
	begins := regexp.MustCompile(`^(0|-|-?[1-9][0-9]*)$|^(0|-?[1-9][0-9]*)/([1-9][0-9]*)?$`)
	eachText("-0126/x", 5, func(text string) {
		x, fault := whole.ParseFrac(text)
		if !is.MatchString(text) {
			equal(t, text, fault, api.Fault{Code: api.ErrText, At: longestBeginning(begins, text)})
			return
		}
		if value, _ := new(big.Rat).SetString(text); value.RatString() != text {
			equal(t, text, fault, api.Fault{Code: api.ErrForm, At: 0})
			return
		}
		equal(t, text, fault, none)
		equal(t, text, x.Text(), text)
	})
}

func TestFracText(t *testing.T) {
	for _, p := range ratios() {
		text := p.x.Text()
		equal(t, "Text", text, p.big.RatString())
		if len(text) < api.MaxDigits {
			equal(t, "read again", fraction(t, text).Cmp(p.x), 0)
		}
	}
	equal(t, "without a bar", over(-12, 4).Text(), "-3")
	equal(t, "with one", over(12, -8).Text(), "-3/2")
}
