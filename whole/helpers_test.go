package whole_test

import (
	"math/big"
	"strings"
	"testing"

	"qloom/api"
	"qloom/whole"
)

// none is the fault of a call that has none.
var none = api.Fault{}

func number(t *testing.T, text string) whole.Int {
	t.Helper()
	n, fault := whole.Parse(text)
	if fault != none {
		t.Fatalf("Parse(%.40q): %v", text, fault)
	}
	return n
}

func fraction(t *testing.T, text string) whole.Frac {
	t.Helper()
	x, fault := whole.ParseFrac(text)
	if fault != none {
		t.Fatalf("ParseFrac(%.40q): %v", text, fault)
	}
	return x
}

func equal[T comparable](t *testing.T, what string, got, want T) {
	t.Helper()
	if got != want {
		t.Errorf("%s: %v, want %v", what, got, want)
	}
}

// fromBig makes a number of any length by additions and shifts of its halves.
func fromBig(b *big.Int) whole.Int {
	if b.IsInt64() {
		return whole.Of(int(b.Int64()))
	}
	half := b.BitLen() / 2
	high := new(big.Int).Rsh(b, uint(half))
	low := new(big.Int).Sub(b, new(big.Int).Lsh(high, uint(half)))
	out := fromBig(high)
	for half > 0 {
		by := min(half, api.MaxShift)
		out, _ = out.Shift(by)
		half -= by
	}
	return out.Add(fromBig(low))
}

// isBig: is a number just the other?
func isBig(t *testing.T, what string, got whole.Int, want *big.Int) {
	t.Helper()
	if got.Text() != want.String() {
		t.Errorf("%s: %.60s, want %.60s", what, got.Text(), want.String())
	}
}

func isRat(t *testing.T, what string, got whole.Frac, want *big.Rat) {
	t.Helper()
	if got.Text() != want.RatString() {
		t.Errorf("%s: %.60s, want %.60s", what, got.Text(), want.RatString())
	}
	above, below := got.Parts()
	isBig(t, what+", above", above, want.Num())
	isBig(t, what+", below", below, want.Denom())
}

// noise is a row of bits that looks without order, and is the same each time.
type noise uint64

func (n *noise) next() uint64 {
	*n = *n*6364136223846793005 + 1442695040888963407
	x := uint64(*n)
	return x ^ x>>29
}

// bits is a number of that many bits; some of its words are all noughts or all ones.
func (n *noise) bits(length int) *big.Int {
	out := new(big.Int)
	for i := 0; i < length; i += 64 {
		word := n.next()
		switch n.next() >> 33 % 5 {
		case 0:
			word = 0
		case 1:
			word = 1<<64 - 1
		}
		out.Lsh(out, 64).Or(out, new(big.Int).SetUint64(word))
	}
	out.SetBit(out, length-1, 1)
	return out.And(out, ones(length))
}

func power(base, exponent int64) *big.Int {
	return new(big.Int).Exp(big.NewInt(base), big.NewInt(exponent), nil)
}

func ones(length int) *big.Int {
	return new(big.Int).Sub(power(2, int64(length)), big.NewInt(1))
}

// pool is numbers about the edges of words and chunks, and others, of both signs.
func pool() []*big.Int {
	sizes := []*big.Int{}
	for _, n := range []int64{1, 2, 3, 5, 6, 7, 10, 12, 48, 100, 720720} {
		sizes = append(sizes, big.NewInt(n))
	}
	for _, k := range []int64{31, 32, 62, 63, 64, 65, 127, 128, 192, 256, 3000} {
		sizes = append(sizes, around(power(2, k))...)
	}
	for _, k := range []int64{18, 19, 20, 38, 57, 76, 700} {
		sizes = append(sizes, around(power(10, k))...)
	}
	seed := noise(1)
	for _, length := range []int{40, 64, 70, 120, 130, 190, 300, 700, 2500, 2561, 5200} {
		sizes = append(sizes, seed.bits(length))
	}
	out := []*big.Int{new(big.Int)}
	for _, size := range sizes {
		out = append(out, size, new(big.Int).Neg(size))
	}
	return out
}

func around(n *big.Int) []*big.Int {
	one := big.NewInt(1)
	return []*big.Int{new(big.Int).Sub(n, one), n, new(big.Int).Add(n, one)}
}

// both has numbers of one pool in two forms.
type both struct {
	n   whole.Int
	big *big.Int
}

func pairs() []both {
	var out []both
	for _, b := range pool() {
		out = append(out, both{fromBig(b), b})
	}
	return out
}

func digits(n int) string { return strings.Repeat("7", n) }
