package whole

import (
	"cmp"
	"math/bits"
)

// The sizes of long numbers: words of 64 bits, the lowest first, the last one
// not 0. What is handed in is only read; what is answered may be the front of
// what was handed in, but has no room behind it to grow into.

// splitFrom is the length from which cutting factors in halves is quicker than
// multiplying word by word.
const splitFrom = 40

// front is the number that the first n words make.
func front(words []uint64, n int) []uint64 { return trim(words[:n:n]) }

// trim leaves out noughts at the end. Its answer shares the words: without
// spare room, so that nothing appended to it can reach what stands behind.
func trim(words []uint64) []uint64 {
	n := len(words)
	for n > 0 && words[n-1] == 0 {
		n--
	}
	return words[:n:n]
}

func compareWords(a, b []uint64) int {
	if len(a) != len(b) {
		return cmp.Compare(len(a), len(b))
	}
	for i := len(a) - 1; i >= 0; i-- {
		if a[i] != b[i] {
			return cmp.Compare(a[i], b[i])
		}
	}
	return 0
}

func addWords(a, b []uint64) []uint64 {
	if len(a) < len(b) {
		a, b = b, a
	}
	sum := make([]uint64, len(a)+1)
	copy(sum, a)
	addInto(sum, b)
	return trim(sum)
}

// addInto adds b to the number in sum, which must have at least as many words;
// it answers what does not fit.
func addInto(sum, b []uint64) uint64 {
	var carry uint64
	for i, word := range b {
		sum[i], carry = bits.Add64(sum[i], word, carry)
	}
	for i := len(b); i < len(sum) && carry != 0; i++ {
		sum[i], carry = bits.Add64(sum[i], 0, carry)
	}
	return carry
}

// subWords is a - b; a must be at least b.
func subWords(a, b []uint64) []uint64 {
	rest := make([]uint64, len(a))
	copy(rest, a)
	var borrow uint64
	for i, word := range b {
		rest[i], borrow = bits.Sub64(rest[i], word, borrow)
	}
	for i := len(b); i < len(rest) && borrow != 0; i++ {
		rest[i], borrow = bits.Sub64(rest[i], 0, borrow)
	}
	return trim(rest)
}

func mulWords(a, b []uint64) []uint64 {
	if len(a) < len(b) {
		a, b = b, a
	}
	if len(b) < splitFrom {
		return mulPlain(a, b)
	}
	half := (len(a) + 1) / 2
	if len(b) <= half {
		return mulUneven(a, b, half)
	}
	return mulHalves(a, b, half)
}

func mulPlain(a, b []uint64) []uint64 {
	out := make([]uint64, len(a)+len(b))
	for i, word := range b {
		out[i+len(a)] = addProduct(out[i:i+len(a)], a, word)
	}
	return trim(out)
}

// addProduct adds a times word to sum, which has as many words as a, and
// answers what does not fit.
func addProduct(sum, a []uint64, word uint64) uint64 {
	var over uint64
	for i, digit := range a {
		high, low := bits.Mul64(digit, word)
		var carry uint64
		low, carry = bits.Add64(low, over, 0)
		high += carry
		sum[i], carry = bits.Add64(sum[i], low, 0)
		over = high + carry
	}
	return over
}

// mulUneven cuts the longer factor only, till both are about equally long.
func mulUneven(a, b []uint64, cut int) []uint64 {
	out := make([]uint64, len(a)+len(b))
	copy(out, mulWords(front(a, cut), b))
	addInto(out[cut:], mulWords(a[cut:], b))
	return trim(out)
}

// mulHalves takes three products of halves in place of four:
// (a0 + a1)(b0 + b1) less a0 b0 and a1 b1 is a0 b1 + a1 b0.
func mulHalves(a, b []uint64, cut int) []uint64 {
	a0, a1 := front(a, cut), a[cut:]
	b0, b1 := front(b, cut), b[cut:]
	low, high := mulWords(a0, b0), mulWords(a1, b1)
	cross := mulWords(addWords(a0, a1), addWords(b0, b1))
	cross = subWords(subWords(cross, low), high)
	out := make([]uint64, len(a)+len(b))
	copy(out, low)
	copy(out[2*cut:], high)
	addInto(out[cut:], cross)
	return trim(out)
}

// shiftUp is a times 2 to the n.
func shiftUp(a []uint64, n uint) []uint64 {
	skip := int(n / 64)
	out := make([]uint64, len(a)+skip+1)
	shiftInto(out[skip:], a, n%64)
	return trim(out)
}

// shiftInto puts a times 2 to the n, which is below 64, into out: that must be
// noughts, one word more than a has.
func shiftInto(out, a []uint64, n uint) {
	for i, word := range a {
		out[i] |= word << n
		out[i+1] = word >> (64 - n)
	}
}

// shiftDown is a over 2 to the n, rounded down.
func shiftDown(a []uint64, n uint) []uint64 {
	skip, by := int(n/64), n%64
	if skip >= len(a) {
		return nil
	}
	out := make([]uint64, len(a)-skip)
	for i, word := range a[skip:] {
		out[i] = word >> by
		if i > 0 {
			out[i-1] |= word << (64 - by)
		}
	}
	return trim(out)
}
