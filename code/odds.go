package code

import "qloom/whole"

// odds are the chances of a qubit's letters, as whole numbers of a unit.
type odds struct {
	letter whole.Int // of X, of Y, of Z
	none   whole.Int // of I
	all    whole.Int // together
}

// oddsOf are those where X, Y and Z each have a chance.
func oddsOf(letter whole.Frac) odds {
	above, below := letter.Parts()
	return odds{letter: above, none: below.Sub(above.Mul(whole.Of(3))), all: below}
}

// canBe: is no chance below 0?
func (o odds) canBe() bool { return o.letter.Sign() >= 0 && o.none.Sign() >= 0 }

// chance is that of errors of which there are, of each weight up to that of all qubits,
// so many.
func (o odds) chance(errors []int) whole.Frac {
	qubits := len(errors) - 1
	var sum whole.Int
	for weight, count := range errors {
		each := power(o.letter, weight).Mul(power(o.none, qubits-weight))
		sum = sum.Add(whole.Of(count).Mul(each))
	}
	out, _ := whole.Over(sum, power(o.all, qubits))
	return out
}

// power is a number so many times with itself.
func power(n whole.Int, times int) whole.Int {
	out := whole.Of(1)
	for range times {
		out = out.Mul(n)
	}
	return out
}
