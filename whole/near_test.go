package whole_test

import (
	"math"
	"math/big"
	"testing"

	"qloom/whole"
)

// convergents of a number, each reckoned from its quotients alone.
func convergents(x *big.Rat) []*big.Rat {
	var quotients []*big.Int
	a, b := new(big.Int).Set(x.Num()), new(big.Int).Set(x.Denom())
	for b.Sign() != 0 {
		q, r := new(big.Int).DivMod(a, b, new(big.Int))
		quotients = append(quotients, q)
		a, b = b, r
	}
	var out []*big.Rat
	for n := range quotients {
		value := new(big.Rat).SetInt(quotients[n])
		for i := n - 1; i >= 0; i-- {
			value.Inv(value)
			value.Add(value, new(big.Rat).SetInt(quotients[i]))
		}
		out = append(out, value)
	}
	return out
}

func nearest(x *big.Rat, most *big.Int) *big.Rat {
	all := convergents(x)
	for i, c := range all[1:] {
		if c.Denom().Cmp(most) > 0 {
			return all[i]
		}
	}
	return all[len(all)-1]
}

func TestNear(t *testing.T) {
	for _, c := range []struct {
		x    string
		most int
		want string
	}{
		{"13/31", 10, "3/7"}, {"13/31", 7, "3/7"}, {"13/31", 6, "2/5"}, {"13/31", 4, "1/2"}, {"13/31", 2, "1/2"},
		{"13/31", 1, "0"}, {"13/31", 0, "0"}, {"13/31", -1, "0"}, {"13/31", math.MinInt64, "0"},
		{"13/31", 11, "3/7"}, {"13/31", 12, "5/12"}, {"13/31", 30, "5/12"}, {"13/31", 31, "13/31"}, {"13/31", math.MaxInt64, "13/31"},
		{"5", 1, "5"}, {"5", 0, "5"}, {"-5", -3, "-5"}, {"0", 0, "0"}, {"0", 5, "0"},
		{"2/3", 1, "1"}, {"2/3", 0, "0"}, {"2/3", 2, "1"}, {"2/3", 3, "2/3"},
		{"-7/2", 1, "-4"}, {"-7/2", 0, "-4"}, {"-7/2", 2, "-7/2"}, {"-1/3", 2, "0"}, {"-1/3", 1, "0"}, {"-1/3", 0, "-1"}, {"-2/3", 2, "-1"},
		{"22/7", 6, "3"}, {"355/113", 112, "22/7"},
	} {
		equal(t, "Near of "+c.x, whole.Near(fraction(t, c.x), whole.Of(c.most)).Text(), c.want)
	}
}

func TestNearOfAllSmallFractions(t *testing.T) {
	for b := 1; b <= 24; b++ {
		for a := -40; a <= 40; a++ {
			x := big.NewRat(int64(a), int64(b))
			for most := -1; most <= 25; most++ {
				got := whole.Near(over(a, b), whole.Of(most))
				isRat(t, "Near of "+x.RatString(), got, nearest(x, big.NewInt(int64(most))))
			}
		}
	}
}

func TestNearOfLongFractions(t *testing.T) {
	seed := noise(6)
	for _, length := range []int{100, 300, 1000} {
		a, b := seed.bits(length), seed.bits(length)
		x, _ := whole.Over(fromBig(a), fromBig(b).Neg())
		want := new(big.Rat).SetFrac(a, new(big.Int).Neg(b))
		for _, most := range []*big.Int{power(2, 40), power(10, 25), power(2, int64(length)), power(2, 3000)} {
			isRat(t, "Near", whole.Near(x, fromBig(most)), nearest(want, most))
		}
		equal(t, "all of it", whole.Near(x, fromBig(b)).Cmp(x), 0)
	}
}
