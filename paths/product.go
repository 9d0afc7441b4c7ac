package paths

import (
	"cmp"
	"math/bits"
)

// product is a set of variables: bit v says whether variable v is in it. There
// are never more of them than it has bits.
type product uint64

// one is the product of no variables.
const one product = 0

// single is the product of one variable.
func single(v int) product { return 1 << v }

// has: is variable v in the product?
func (p product) has(v int) bool { return p>>v&1 == 1 }

// length is how many variables are in the product.
func (p product) length() int { return bits.OnesCount64(uint64(p)) }

// least is the product's least variable; it must have some.
func (p product) least() int { return bits.TrailingZeros64(uint64(p)) }

// variables are those of the product, rising.
func (p product) variables() []int {
	list := make([]int, 0, p.length())
	for ; p != one; p &= p - 1 {
		list = append(list, p.least())
	}
	return list
}

// renumbered is a product that doesn't have variable v, as it is when v is gone:
// the variables above v take lower numbers.
func (p product) renumbered(v int) product {
	below := single(v) - 1
	return p&below | p>>1&^below
}

// compare orders products as they are told: shorter ones ahead of longer ones, then
// by the first variable in which they differ, which is the least that one alone has.
func compare(a, b product) int {
	apart := a ^ b
	switch {
	case a.length() != b.length():
		return cmp.Compare(a.length(), b.length())
	case apart == one:
		return 0
	case a.has(apart.least()):
		return -1
	}
	return 1
}

// readProduct is the product of a list of variables, and whether it is written as one:
// rising, each one of so many variables.
func readProduct(list []int, variables int) (product, bool) {
	p, least := one, 0
	for _, v := range list {
		if v < least || v >= variables {
			return one, false
		}
		p |= single(v)
		least = v + 1
	}
	return p, true
}
