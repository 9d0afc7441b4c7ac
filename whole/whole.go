// Package whole has integers of any length, and fractions of them: see doc/01-whole.md.
package whole

import (
	"cmp"
	"math"
	"math/bits"

	"qloom/api"
)

// Int is an integer; the zero value is 0. Most numbers are short: those that an
// int holds need no memory besides. Each number is kept in just one way.
type Int struct {
	small int      // the number, if an int holds it; else its sign, -1 or 1
	long  []uint64 // nil, if an int holds it; else the words of its size, which numbers share: they are never written again
}

// Of is n.
func Of(n int) Int { return Int{small: n} }

// fromWords makes a number of its size (what it is without its sign). It takes
// the words over: they must not be written to any more.
func fromWords(neg bool, size []uint64) Int {
	size = trim(size)
	if len(size) == 0 {
		return Int{}
	}
	if len(size) == 1 {
		if n, ok := fromWord(neg, size[0]); ok {
			return n
		}
	}
	if neg {
		return Int{small: -1, long: size}
	}
	return Int{small: 1, long: size}
}

// fromWord makes a number of its size, if an int holds it.
func fromWord(neg bool, size uint64) (Int, bool) {
	if neg {
		return Int{small: int(-size)}, size <= 1<<63
	}
	return Int{small: int(size)}, size <= math.MaxInt64
}

// words are those of a's size; they may be shared, and are only to be read.
func (a Int) words() []uint64 {
	if a.long != nil {
		return a.long
	}
	return trim([]uint64{wordOf(a.small)})
}

// wordOf is n's size.
func wordOf(n int) uint64 {
	if n < 0 {
		return -uint64(n)
	}
	return uint64(n)
}

// short: do ints hold both?
func short(a, b Int) bool { return a.long == nil && b.long == nil }

func (a Int) negative() bool { return a.small < 0 }

// Sign is -1, 0 or 1.
func (a Int) Sign() int { return cmp.Compare(a.small, 0) }

// Cmp is -1, 0 or 1, as a is below b, is b, or is above it.
func (a Int) Cmp(b Int) int {
	switch {
	case short(a, b):
		return cmp.Compare(a.small, b.small)
	case a.negative() != b.negative():
		return cmp.Compare(a.Sign(), b.Sign())
	case a.negative():
		return compareWords(b.words(), a.words())
	}
	return compareWords(a.words(), b.words())
}

// Neg is -a.
func (a Int) Neg() Int {
	if a.long == nil && a.small != math.MinInt64 {
		return Int{small: -a.small}
	}
	return fromWords(!a.negative(), a.words())
}

// Add is a + b.
func (a Int) Add(b Int) Int {
	if short(a, b) {
		sum := a.small + b.small
		if (sum > a.small) == (b.small > 0) {
			return Int{small: sum}
		}
	}
	return addLong(a, b)
}

func addLong(a, b Int) Int {
	first, second := a.words(), b.words()
	if a.negative() == b.negative() {
		return fromWords(a.negative(), addWords(first, second))
	}
	if compareWords(first, second) < 0 {
		return fromWords(b.negative(), subWords(second, first))
	}
	return fromWords(a.negative(), subWords(first, second))
}

// Sub is a - b.
func (a Int) Sub(b Int) Int { return a.Add(b.Neg()) }

// Mul is a times b.
func (a Int) Mul(b Int) Int {
	neg := a.negative() != b.negative()
	if short(a, b) {
		high, low := bits.Mul64(wordOf(a.small), wordOf(b.small))
		return fromPair(neg, high, low)
	}
	return fromWords(neg, mulWords(a.words(), b.words()))
}

// fromPair makes a number of a size of two words.
func fromPair(neg bool, high, low uint64) Int {
	if n, ok := fromWord(neg, low); ok && high == 0 {
		return n
	}
	return fromWords(neg, []uint64{low, high})
}

// Shift is a times 2 to the n, rounded down.
func (a Int) Shift(n int) (Int, api.Fault) {
	if n < -api.MaxShift || n > api.MaxShift {
		return Int{}, api.Fault{Code: api.ErrShift}
	}
	if n < 0 {
		return a.halve(uint(-n)), api.Fault{}
	}
	return a.double(uint(n)), api.Fault{}
}

// double is a times 2 to the n.
func (a Int) double(n uint) Int {
	if a.long == nil && a.small<<n>>n == a.small {
		return Int{small: a.small << n}
	}
	return fromWords(a.negative(), shiftUp(a.words(), n))
}

// halve is a over 2 to the n, rounded down: below 0 that is away from 0.
func (a Int) halve(n uint) Int {
	if a.long == nil {
		return Int{small: a.small >> n}
	}
	out := fromWords(a.negative(), shiftDown(a.long, n))
	if a.negative() && uint(a.Twos()) < n {
		return out.Sub(Of(1))
	}
	return out
}

// Twos is how often 2 divides a (0 of 0).
func (a Int) Twos() int {
	if a.Sign() == 0 {
		return 0
	}
	if a.long == nil {
		return bits.TrailingZeros64(uint64(a.small))
	}
	noughts := 0
	for a.long[noughts] == 0 {
		noughts++
	}
	return 64*noughts + bits.TrailingZeros64(a.long[noughts])
}

// Small is a as an int, and true; 0 and false, if no int holds it.
func (a Int) Small() (int, bool) {
	if a.long != nil {
		return 0, false
	}
	return a.small, true
}

// Div is q and r with a = q b + r, where r is at least 0 and below b without its sign.
func (a Int) Div(b Int) (Int, Int, api.Fault) {
	if b.Sign() == 0 {
		return Int{}, Int{}, api.Fault{Code: api.ErrZero}
	}
	q, r := divTowardsNought(a, b)
	if !r.negative() {
		return q, r, api.Fault{}
	}
	if b.negative() {
		return q.Add(Of(1)), r.Sub(b), api.Fault{}
	}
	return q.Sub(Of(1)), r.Add(b), api.Fault{}
}

// divTowardsNought divides as Go's ints do: a rest has a's sign. b must not be 0.
func divTowardsNought(a, b Int) (Int, Int) {
	// The least int by -1 is a number that no int holds.
	if short(a, b) && b.small != -1 {
		return Of(a.small / b.small), Of(a.small % b.small)
	}
	q, r := divWords(a.words(), b.words())
	return fromWords(a.negative() != b.negative(), q), fromWords(a.negative(), r)
}

// Gcd is the greatest number that divides both; 0 of 0 and 0. Twos are shifted
// away first: many numbers are over powers of two, and dividing those is slow.
func Gcd(a, b Int) Int {
	if a.Sign() == 0 || b.Sign() == 0 {
		return a.Add(b).withoutSign()
	}
	twosOfA, twosOfB := uint(a.Twos()), uint(b.Twos())
	a, b = a.halve(twosOfA), b.halve(twosOfB)
	for b.Sign() != 0 {
		_, rest := divTowardsNought(a, b)
		a, b = b, rest
	}
	return a.withoutSign().double(min(twosOfA, twosOfB))
}

func (a Int) withoutSign() Int {
	if a.negative() {
		return a.Neg()
	}
	return a
}
