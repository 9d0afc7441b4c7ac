package rev

import (
	"iter"

	"qloom/api"
)

// nodes ranges over the nodes of an expression in their order: each ahead of
// those below it.
func nodes(e api.Expr) iter.Seq[api.Expr] {
	return func(yield func(api.Expr) bool) { walk(e, yield) }
}

// walk hands over the nodes in their order: are more of them asked for?
func walk(e api.Expr, yield func(api.Expr) bool) bool {
	if !yield(e) {
		return false
	}
	for _, part := range e.Args {
		if !walk(part, yield) {
			return false
		}
	}
	return true
}

// countProducts is how many BAnd and BOr nodes an expression has.
func countProducts(e api.Expr) int {
	count := 0
	for node := range nodes(e) {
		if node.Kind == api.BAnd || node.Kind == api.BOr {
			count++
		}
	}
	return count
}

// meaning says what becomes of expressions, by what becomes of variables, of 1,
// and of sums and products modulo 2.
type meaning[T any] struct {
	variable func(v int) T
	one      T
	sum      func(terms ...T) T
	product  func(a, b T) T
}

// of is what an expression without a fault comes to. Each part is worked out
// just once, and each BAnd and BOr asks for just one product: Deep counts on that.
func (m meaning[T]) of(e api.Expr) T {
	var below []T
	for _, part := range e.Args {
		below = append(below, m.of(part))
	}
	switch e.Kind {
	case api.BBit:
		return m.variable(e.V)
	case api.BOne:
		return m.one
	case api.BNot:
		return m.sum(m.one, below[0])
	case api.BAnd:
		return m.product(below[0], below[1])
	case api.BOr:
		return m.sum(below[0], below[1], m.product(below[0], below[1]))
	}
	return m.sum(below...)
}
