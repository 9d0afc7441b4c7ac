package whole

import (
	"math"
	"math/bits"
)

// divWords is a divided by b, with its rest; b must not be 0.
func divWords(a, b []uint64) ([]uint64, []uint64) {
	if compareWords(a, b) < 0 {
		return nil, a
	}
	if len(b) == 1 {
		q, r := divByWord(a, b[0])
		return q, trim([]uint64{r})
	}
	return divLong(a, b)
}

func divByWord(a []uint64, by uint64) ([]uint64, uint64) {
	q := make([]uint64, len(a))
	var rest uint64
	for i := len(a) - 1; i >= 0; i-- {
		q[i], rest = bits.Div64(rest, a[i], by)
	}
	return trim(q), rest
}

// divLong divides as one does on paper, with words for digits. Both numbers are
// first shifted till b's highest bit is set: then no guess is off by more than one.
func divLong(a, b []uint64) ([]uint64, []uint64) {
	by := uint(bits.LeadingZeros64(b[len(b)-1]))
	b = shiftUp(b, by)
	rest := make([]uint64, len(a)+1)
	shiftInto(rest, a, by)
	q := make([]uint64, len(a)-len(b)+1)
	for i := len(q) - 1; i >= 0; i-- {
		q[i] = divDigit(rest[i:i+len(b)+1], b)
	}
	return trim(q), shiftDown(trim(rest), by)
}

// divDigit takes b from part as often as it goes, and answers how often.
// part has one word more than b, and is less than 2^64 times b.
func divDigit(part, b []uint64) uint64 {
	n := len(b)
	guess := guessDigit(part[n], part[n-1], part[n-2], b[n-1], b[n-2])
	over := takeProduct(part[:n], b, guess)
	tooGreat := part[n] < over
	part[n] -= over
	if tooGreat {
		guess--
		part[n] += addInto(part[:n], b)
	}
	return guess
}

// guessDigit divides the three highest words by b's two highest: the answer is
// right, or too great by one.
func guessDigit(high, mid, low, b1, b2 uint64) uint64 {
	if high >= b1 {
		return math.MaxUint64
	}
	guess, rest := bits.Div64(high, mid, b1)
	for {
		over, under := bits.Mul64(guess, b2)
		if over < rest || over == rest && under <= low {
			return guess
		}
		guess--
		rest += b1
		if rest < b1 {
			return guess
		}
	}
}

// takeProduct takes b times word from part, which has as many words as b, and
// answers what is still to be taken from the word behind.
func takeProduct(part, b []uint64, word uint64) uint64 {
	var over uint64
	for i, digit := range b {
		high, low := bits.Mul64(digit, word)
		var carry uint64
		low, carry = bits.Add64(low, over, 0)
		high += carry
		part[i], carry = bits.Sub64(part[i], low, 0)
		over = high + carry
	}
	return over
}
