package weave

import "qloom/api"

// number is what an expression comes to.
func (w *weaver) number(n api.Node) int {
	switch n.Kind {
	case api.NNum:
		return inRange(n.N, n.At)
	case api.NName:
		return w.named(n)
	case api.NSize:
		return w.size(n)
	case api.NNeg:
		return inRange(-w.number(kid(n, 0)), n.At)
	case api.NBin:
		a := w.number(kid(n, 0))
		b := w.number(kid(n, 1))
		return inRange(operate(n, a, b), n.At)
	}
	panic(refusal{Code: api.ErrKind, At: n.At})
}

// inRange is a number that may be reckoned with. As all are, no sum and no product
// of two is too great for an int.
func inRange(n, at int) int {
	if n < -api.MaxWhole || n > api.MaxWhole {
		refuse(api.ErrRange, at)
	}
	return n
}

func (w *weaver) named(n api.Node) int {
	t := w.need(n.Name, n.At)
	if t.kind != aNumber {
		refuse(api.ErrType, n.At)
	}
	return t.number
}

func (w *weaver) size(n api.Node) int {
	t := w.need(n.Name, n.At)
	if !t.isRow() {
		refuse(api.ErrType, n.At)
	}
	return t.count
}

// operate is what the operator of a node makes of two numbers.
func operate(n api.Node, a, b int) int {
	switch n.Name {
	case "+":
		return a + b
	case "-":
		return a - b
	case "*":
		return a * b
	case "/", "%":
		return divide(n, a, b)
	case "**":
		if b < 0 {
			refuse(api.ErrRange, n.At)
		}
		return power(a, b)
	}
	return compare(n, a, b)
}

// divide is the quotient or the rest, which is never below 0.
func divide(n api.Node, a, b int) int {
	if b == 0 {
		refuse(api.ErrZero, n.At)
	}
	rest := a % b
	if rest < 0 {
		rest += abs(b)
	}
	if n.Name == "%" {
		return rest
	}
	return (a - rest) / b
}

func abs(n int) int { return max(n, -n) }

// power is a, b times as a factor; beyond MaxWhole, if that is.
func power(a, b int) int {
	// So many factors are too many, unless all that counts is whether b is even.
	b = min(b, 32+b%2)
	out := 1
	for range b {
		if abs(out) > api.MaxWhole {
			break
		}
		out *= a
	}
	return out
}

func compare(n api.Node, a, b int) int {
	holds := false
	switch n.Name {
	case "==":
		holds = a == b
	case "!=":
		holds = a != b
	case "<":
		holds = a < b
	case "<=":
		holds = a <= b
	case ">":
		holds = a > b
	case ">=":
		holds = a >= b
	default:
		refuse(api.ErrKind, n.At)
	}
	if holds {
		return 1
	}
	return 0
}
