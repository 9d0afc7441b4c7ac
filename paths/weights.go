package paths

import (
	"maps"
	"slices"

	"qloom/api"
)

// weight is how many times a product stands in a sum. Its type says modulo what.
type weight interface {
	~int
	modulus() int
}

// parity is a weight in what a qubit is.
type parity int

// sixteenths is a weight in a phase.
type sixteenths int

func (parity) modulus() int { return 2 }

func (sixteenths) modulus() int { return 16 }

// sum is a sum of products. Those that stand in it no times are not kept: so each
// function of the variables is just one sum.
type sum[W weight] map[product]W

// only is the sum of one product, k times.
func only[W weight](p product, k W) sum[W] {
	s := sum[W]{}
	add(s, p, k)
	return s
}

// add adds a product, k times.
func add[W weight](s sum[W], p product, k W) {
	k = reduced(s[p] + k)
	if k == 0 {
		delete(s, p)
		return
	}
	s[p] = k
}

// reduced is a weight as it is kept: not below 0.
func reduced[W weight](k W) W { return k & W(k.modulus()-1) }

// addTimes adds another sum times a product, k times.
func addTimes[W weight](s, other sum[W], p product, k W) {
	if reduced(k) == 0 {
		return
	}
	for q, j := range other {
		add(s, p|q, k*j)
	}
}

// times is a sum times what a form is, 0 or 1. If a form is f, and a product p that
// is not in it comes to it, it is f + p - 2 f p. Modulo 2 that is f + p.
func times[W weight](s sum[W], form sum[parity]) sum[W] {
	out := sum[W]{}
	for p := range form {
		more := sum[W]{}
		addTimes(more, out, p, -2)
		addTimes(more, s, p, 1)
		addTimes(out, more, one, 1)
	}
	return out
}

// part is what a sum gains when variable v goes from 0 to 1: what v is multiplied by.
func part[W weight](s sum[W], v int) sum[W] {
	out := sum[W]{}
	for p, k := range s {
		if p.has(v) {
			out[p&^single(v)] = k
		}
	}
	return out
}

// takeOut takes all products with variable v out of a sum, and is what v was
// multiplied by.
func takeOut[W weight](s sum[W], v int) sum[W] {
	out := part(s, v)
	for p := range out {
		delete(s, p|single(v))
	}
	return out
}

// renumbered is a sum in which no product has variable v, as it is when v is gone.
func renumbered[W weight](s sum[W], v int) sum[W] {
	out := sum[W]{}
	for p, k := range s {
		out[p.renumbered(v)] = k
	}
	return out
}

// count is how many products have variable v.
func count[W weight](s sum[W], v int) int {
	n := 0
	for p := range s {
		if p.has(v) {
			n++
		}
	}
	return n
}

// value is what a sum is where the variables of a set are 1 and the others are 0.
func value[W weight](s sum[W], ones product) W {
	var out W
	for p, k := range s {
		if p&^ones == one {
			out += k
		}
	}
	return reduced(out)
}

// ordered are the products of a sum as they are told.
func ordered[W weight](s sum[W]) []product {
	return slices.SortedFunc(maps.Keys(s), compare)
}

// spread is a sum times what a form is, if a phase can have it: not, if it has so
// many terms that a phase to which it comes has too many, whatever was in it. What is
// left of a multiple has no more terms than the whole, and is sooner worked out: so
// most of those that are too long are told by one.
func spread(s sum[sixteenths], form sum[parity]) (sum[sixteenths], bool) {
	var out sum[sixteenths]
	for k := sixteenths(8); k > 0; k /= 2 {
		multiple := sum[sixteenths]{}
		addTimes(multiple, s, one, k)
		out = times(multiple, form)
		if len(out) > 2*api.MaxTerms {
			return nil, false
		}
	}
	return out, true
}

// eighths is the form that a sum is 8 times, and whether it is so.
func eighths(s sum[sixteenths]) (sum[parity], bool) {
	form := sum[parity]{}
	for p, k := range s {
		if k != 8 {
			return nil, false
		}
		form[p] = 1
	}
	return form, true
}
