package whole_test

import (
	"math"
	"math/big"
	"testing"

	"qloom/api"
	"qloom/whole"
)

func TestOf(t *testing.T) {
	for _, n := range []int{0, 1, -1, 9, 10, -10, math.MaxInt32, math.MinInt32, math.MaxInt64, math.MinInt64, math.MinInt64 + 1} {
		isBig(t, "Of", whole.Of(n), big.NewInt(int64(n)))
	}
}

func TestZeroValueIsNought(t *testing.T) {
	var a whole.Int
	equal(t, "Text", a.Text(), "0")
	equal(t, "Sign", a.Sign(), 0)
	equal(t, "Cmp", a.Cmp(whole.Of(0)), 0)
	equal(t, "Cmp of 0", whole.Of(0).Cmp(a), 0)
	equal(t, "Neg", a.Neg().Text(), "0")
	equal(t, "Add", a.Add(whole.Of(-5)).Text(), "-5")
	equal(t, "Sub", a.Sub(whole.Of(-5)).Text(), "5")
	equal(t, "Mul", a.Mul(whole.Of(-5)).Text(), "0")
	equal(t, "Twos", a.Twos(), 0)
	small, ok := a.Small()
	equal(t, "Small", small, 0)
	equal(t, "Small's word", ok, true)
	equal(t, "Gcd", whole.Gcd(a, a).Text(), "0")
	shifted, fault := a.Shift(-3)
	equal(t, "Shift", shifted.Text(), "0")
	equal(t, "Shift's fault", fault, none)
	q, r, fault := a.Div(whole.Of(-3))
	equal(t, "Div", q.Text()+" "+r.Text(), "0 0")
	equal(t, "Div's fault", fault, none)
}

func TestNoughtHasNoSign(t *testing.T) {
	long := number(t, "-"+digits(300))
	tiny, _ := whole.Of(5).Shift(-3)
	for what, a := range map[string]whole.Int{
		"Neg": whole.Of(0).Neg(), "Add": long.Add(long.Neg()), "Sub": long.Sub(long),
		"Mul": long.Mul(whole.Of(0)), "Mul by -1": whole.Of(0).Mul(whole.Of(-1)), "Shift": tiny,
	} {
		equal(t, what, a.Sign(), 0)
		equal(t, what, a.Text(), "0")
		equal(t, what, a.Cmp(whole.Int{}), 0)
	}
}

func TestOneNumber(t *testing.T) {
	for _, p := range pairs() {
		isBig(t, "itself", p.n, p.big)
		equal(t, "Sign of "+p.big.String(), p.n.Sign(), p.big.Sign())
		isBig(t, "Neg", p.n.Neg(), new(big.Int).Neg(p.big))
		isBig(t, "twice Neg", p.n.Neg().Neg(), p.big)
		equal(t, "Twos of "+p.big.String(), p.n.Twos(), int(p.big.TrailingZeroBits()))
		small, ok := p.n.Small()
		equal(t, "Small's word of "+p.big.String(), ok, p.big.IsInt64())
		if p.big.IsInt64() {
			equal(t, "Small", int64(small), p.big.Int64())
		} else {
			equal(t, "Small of what is none", small, 0)
		}
	}
}

func TestTwoNumbers(t *testing.T) {
	all := pairs()
	for _, p := range all {
		for _, q := range all {
			equal(t, "Cmp", p.n.Cmp(q.n), p.big.Cmp(q.big))
			isBig(t, "Add", p.n.Add(q.n), new(big.Int).Add(p.big, q.big))
			isBig(t, "Sub", p.n.Sub(q.n), new(big.Int).Sub(p.big, q.big))
			isBig(t, "Mul", p.n.Mul(q.n), new(big.Int).Mul(p.big, q.big))
			sizes := [2]*big.Int{new(big.Int).Abs(p.big), new(big.Int).Abs(q.big)}
			isBig(t, "Gcd", whole.Gcd(p.n, q.n), new(big.Int).GCD(nil, nil, sizes[0], sizes[1]))
		}
	}
}

// Factors of very unlike and of great lengths are cut in halves, and those again.
func TestMulOfLongNumbers(t *testing.T) {
	seed := noise(2)
	lengths := []int{64 * 39, 64 * 40, 64 * 41, 64 * 79, 64 * 80, 64 * 81, 64 * 200, 64*333 + 5, 64 * 1000}
	for _, first := range lengths {
		for _, second := range lengths {
			for _, p := range []*big.Int{seed.bits(first), ones(first), power(2, int64(first))} {
				for _, q := range []*big.Int{seed.bits(second), ones(second)} {
					got := fromBig(p).Mul(fromBig(q).Neg())
					want := new(big.Int).Mul(p, q)
					if got.Cmp(fromBig(want.Neg(want))) != 0 {
						t.Fatalf("Mul of %d and %d bits is wrong", first, second)
					}
				}
			}
		}
	}
}

func TestSmallEdges(t *testing.T) {
	for text, want := range map[string]int{
		"9223372036854775807": math.MaxInt64, "-9223372036854775808": math.MinInt64,
		"9223372036854775806": math.MaxInt64 - 1, "-9223372036854775807": math.MinInt64 + 1,
		"0": 0, "-1": -1,
	} {
		got, ok := number(t, text).Small()
		equal(t, text, got, want)
		equal(t, text, ok, true)
	}
	for _, text := range []string{
		"9223372036854775808", "-9223372036854775809", "18446744073709551615", "-18446744073709551615",
		"18446744073709551616", "-18446744073709551616", digits(500), "-" + digits(500),
	} {
		got, ok := number(t, text).Small()
		equal(t, text, got, 0)
		equal(t, text, ok, false)
	}
}

func TestTwos(t *testing.T) {
	equal(t, "48", whole.Of(48).Twos(), 4)
	equal(t, "-48", whole.Of(-48).Twos(), 4)
	equal(t, "1", whole.Of(1).Twos(), 0)
	equal(t, "the least int", whole.Of(math.MinInt64).Twos(), 63)
	for _, n := range []int{0, 1, 63, 64, 65, 127, 128, 1000, api.MaxShift} {
		a, _ := whole.Of(-3).Shift(n)
		equal(t, "-3 shifted", a.Twos(), n)
	}
}

func TestShift(t *testing.T) {
	for _, c := range []struct {
		a, n int
		want string
	}{
		{-5, -1, "-3"}, {5, -1, "2"}, {-4, -1, "-2"}, {-1, -1, "-1"}, {-1, -64, "-1"}, {1, -1, "0"}, {1, -64, "0"},
		{-1, -api.MaxShift, "-1"}, {-7, 0, "-7"}, {3, 3, "24"}, {-3, 3, "-24"}, {1, 64, "18446744073709551616"},
		{0, api.MaxShift, "0"}, {math.MinInt64, 1, "-18446744073709551616"}, {math.MinInt64, -63, "-1"},
	} {
		got, fault := whole.Of(c.a).Shift(c.n)
		equal(t, "Shift", got.Text(), c.want)
		equal(t, "Shift's fault", fault, none)
	}
}

func TestShiftOfMany(t *testing.T) {
	by := []int{0, 1, 2, 31, 32, 63, 64, 65, 127, 128, 129, 191, 192, 200, 2500, 2999, 3000, 3001, 3002, 9999, api.MaxShift}
	for _, p := range pairs() {
		for _, n := range by {
			up, fault := p.n.Shift(n)
			isBig(t, "up", up, new(big.Int).Lsh(p.big, uint(n)))
			equal(t, "up's fault", fault, none)
			down, fault := p.n.Shift(-n)
			isBig(t, "down", down, new(big.Int).Rsh(p.big, uint(n)))
			equal(t, "down's fault", fault, none)
			back, _ := up.Shift(-n)
			isBig(t, "there and back", back, p.big)
		}
	}
}

func TestShiftTooWide(t *testing.T) {
	for _, a := range []whole.Int{{}, whole.Of(1), whole.Of(-1), number(t, digits(400))} {
		for _, n := range []int{api.MaxShift + 1, -api.MaxShift - 1, math.MaxInt64, math.MinInt64} {
			got, fault := a.Shift(n)
			equal(t, "too wide", fault, api.Fault{Code: api.ErrShift, At: 0})
			equal(t, "with a fault", got.Text(), "0")
		}
	}
}

func TestDivWithEachSign(t *testing.T) {
	for _, c := range []struct{ a, b, q, r int }{
		{7, 2, 3, 1}, {-7, 2, -4, 1}, {7, -2, -3, 1}, {-7, -2, 4, 1},
		{6, 2, 3, 0}, {-6, 2, -3, 0}, {6, -2, -3, 0}, {-6, -2, 3, 0},
		{1, 5, 0, 1}, {-1, 5, -1, 4}, {1, -5, 0, 1}, {-1, -5, 1, 4},
		{0, 5, 0, 0}, {0, -5, 0, 0}, {5, 1, 5, 0}, {5, -1, -5, 0},
	} {
		q, r, fault := whole.Of(c.a).Div(whole.Of(c.b))
		equal(t, "fault", fault, none)
		isBig(t, "quotient", q, big.NewInt(int64(c.q)))
		isBig(t, "rest", r, big.NewInt(int64(c.r)))
	}
	q, r, _ := whole.Of(math.MinInt64).Div(whole.Of(-1))
	equal(t, "the least int by -1", q.Text()+" "+r.Text(), "9223372036854775808 0")
}

func TestDivOfMany(t *testing.T) {
	all := pairs()
	for _, p := range all {
		for _, q := range all {
			if q.big.Sign() == 0 {
				continue
			}
			quotient, rest, fault := p.n.Div(q.n)
			wantQuotient, wantRest := new(big.Int).DivMod(p.big, q.big, new(big.Int))
			equal(t, "fault", fault, none)
			isBig(t, "quotient", quotient, wantQuotient)
			isBig(t, "rest", rest, wantRest)
		}
	}
}

// Quotients and rests that are known beforehand, to be found again.
func TestDivOfProducts(t *testing.T) {
	seed := noise(3)
	for _, lengths := range [][2]int{{100, 100}, {64, 640}, {640, 64}, {1000, 3000}, {3000, 1000}, {5000, 9000}} {
		for range 20 {
			q, b := seed.bits(lengths[0]), seed.bits(lengths[1])
			for _, r := range []*big.Int{new(big.Int), big.NewInt(1), new(big.Int).Sub(b, big.NewInt(1))} {
				a := new(big.Int).Mul(q, b)
				a.Add(a, r)
				quotient, rest, _ := fromBig(a).Div(fromBig(b))
				isBig(t, "quotient", quotient, q)
				isBig(t, "rest", rest, r)
			}
		}
	}
}

func TestDivByNought(t *testing.T) {
	for _, a := range []whole.Int{{}, whole.Of(1), whole.Of(-7), number(t, digits(400))} {
		q, r, fault := a.Div(whole.Int{})
		equal(t, "by 0", fault, api.Fault{Code: api.ErrZero})
		equal(t, "with a fault", q.Text()+" "+r.Text(), "0 0")
	}
}

func TestGcd(t *testing.T) {
	for _, c := range [][3]int{{12, 18, 6}, {-12, 18, 6}, {12, -18, 6}, {-12, -18, 6}, {0, 5, 5}, {5, 0, 5}, {0, -5, 5}, {-5, 0, 5}, {0, 0, 0}, {1, 9, 1}, {7, 7, 7}} {
		isBig(t, "Gcd", whole.Gcd(whole.Of(c[0]), whole.Of(c[1])), big.NewInt(int64(c[2])))
	}
	common := number(t, digits(300))
	a, b := common.Mul(number(t, "1000000007")), common.Mul(number(t, "-1000000009"))
	equal(t, "of long ones", whole.Gcd(a, b).Text(), digits(300))
}
