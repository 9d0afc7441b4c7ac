package whole

import "qloom/api"

// Frac is a fraction; the zero value is 0.
type Frac struct {
	above Int
	below Int // above 0, and in lowest terms; but 0 of the fraction 0, which is kept as the zero value
}

// Over is a divided by b; ErrZero, if b is 0.
func Over(a, b Int) (Frac, api.Fault) {
	if b.Sign() == 0 {
		return Frac{}, api.Fault{Code: api.ErrZero}
	}
	return lowest(a, b), api.Fault{}
}

// lowest is a over b in lowest terms; b must not be 0.
func lowest(a, b Int) Frac {
	if a.Sign() == 0 {
		return Frac{}
	}
	if b.negative() {
		a, b = a.Neg(), b.Neg()
	}
	common := Gcd(a, b)
	if common.Cmp(Of(1)) == 0 {
		return Frac{above: a, below: b}
	}
	above, _, _ := a.Div(common)
	below, _, _ := b.Div(common)
	return Frac{above: above, below: below}
}

// ParseFrac reads a fraction.
func ParseFrac(text string) (Frac, api.Fault) {
	bar, end, ok := scanFrac(text)
	if !ok || end < len(text) {
		return Frac{}, api.Fault{Code: api.ErrText, At: end}
	}
	if bar == end {
		return parseWhole(text)
	}
	above, below := text[:bar], text[bar+1:]
	if tooLong(above) || tooLong(below) {
		return Frac{}, api.Fault{Code: api.ErrLong}
	}
	a, b := readNumber(above), readNumber(below)
	if below == "1" || Gcd(a, b).Cmp(Of(1)) != 0 {
		return Frac{}, api.Fault{Code: api.ErrForm}
	}
	return Frac{above: a, below: b}, api.Fault{}
}

// scanFrac tells where the bar stands (the end, if there is none), how many
// bytes of the text's beginning can begin a fraction, and whether they are one.
func scanFrac(text string) (bar, end int, ok bool) {
	bar, ok = scanNumber(text)
	if !ok || bar == len(text) || text[bar] != '/' {
		return bar, bar, ok
	}
	digits := scanPositive(text[bar+1:])
	return bar, bar + 1 + digits, digits > 0
}

func parseWhole(text string) (Frac, api.Fault) {
	n, fault := Parse(text)
	if fault.Code != 0 {
		return Frac{}, fault
	}
	return lowest(n, Of(1)), api.Fault{}
}

// Text is the fraction in lowest terms: without a bar, if 1 is below it.
func (x Frac) Text() string {
	above, below := x.Parts()
	if below.Cmp(Of(1)) == 0 {
		return above.Text()
	}
	return above.Text() + "/" + below.Text()
}

// Parts are what is above and below the bar, in lowest terms.
func (x Frac) Parts() (Int, Int) {
	if x.above.Sign() == 0 {
		return Int{}, Of(1)
	}
	return x.above, x.below
}

// Cmp is -1, 0 or 1, as x is below y, is y, or is above it.
func (x Frac) Cmp(y Frac) int {
	a, b := x.Parts()
	c, d := y.Parts()
	return a.Mul(d).Cmp(c.Mul(b))
}

// Add is x + y.
func (x Frac) Add(y Frac) Frac {
	a, b := x.Parts()
	c, d := y.Parts()
	return lowest(a.Mul(d).Add(c.Mul(b)), b.Mul(d))
}

// Sub is x - y.
func (x Frac) Sub(y Frac) Frac {
	y.above = y.above.Neg()
	return x.Add(y)
}

// Mul is x times y.
func (x Frac) Mul(y Frac) Frac {
	a, b := x.Parts()
	c, d := y.Parts()
	return lowest(a.Mul(c), b.Mul(d))
}

// Quo is x divided by y; ErrZero, if y is 0.
func (x Frac) Quo(y Frac) (Frac, api.Fault) {
	a, b := x.Parts()
	c, d := y.Parts()
	return Over(a.Mul(d), b.Mul(c))
}

// Near is the last convergent of x ahead of the first that has more than most
// below its bar; the first convergent always counts.
func Near(x Frac, most Int) Frac {
	a, b := x.Parts()
	quotient, rest, _ := a.Div(b)
	lastAbove, lastBelow := Of(1), Int{}
	above, below := quotient, Of(1)
	for rest.Sign() != 0 {
		a, b = b, rest
		quotient, rest, _ = a.Div(b)
		nextBelow := quotient.Mul(below).Add(lastBelow)
		if nextBelow.Cmp(most) > 0 {
			break
		}
		lastAbove, above = above, quotient.Mul(above).Add(lastAbove)
		lastBelow, below = below, nextBelow
	}
	return lowest(above, below)
}
