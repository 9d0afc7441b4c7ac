package rev

import (
	"slices"

	"qloom/api"
)

// flip is an X on a qubit; its list of controls is new.
func flip(q int, controls ...int) api.Op {
	return api.Op{Kind: api.X, Q: q, Ctl: slices.Clone(controls)}
}

// after is the basis state that an X leaves of x.
func after(op api.Op, x int) int {
	if controls := setOf(op.Ctl...); x&controls != controls {
		return x
	}
	return x ^ setOf(op.Q)
}

// setOf is a set of numbers: its bit i says whether i is in it.
func setOf(numbers ...int) int {
	out := 0
	for _, n := range numbers {
		out |= 1 << n
	}
	return out
}

// members are the numbers in a set, rising.
func members(set int) []int {
	var out []int
	for n := 0; set>>n > 0; n++ {
		if set>>n&1 == 1 {
			out = append(out, n)
		}
	}
	return out
}

// undone are operations that undo Xs.
func undone(ops []api.Op) []api.Op {
	var out []api.Op
	for _, op := range slices.Backward(ops) {
		out = append(out, flip(op.Q, op.Ctl...))
	}
	return out
}

// permute are Xs that take each basis state x to p[x].
func permute(p []int) []api.Op {
	var ops []api.Op
	left := slices.Clone(p)
	for x := range left {
		for left[x] != x {
			op := bring(left[x], x)
			for i, y := range left {
				left[i] = after(op, y)
			}
			ops = append(ops, op)
		}
	}
	return undone(ops)
}

// bring is an X by which y, which is above x, differs from x in one qubit less.
// It leaves all states below x alone: its controls alone are x or more.
func bring(y, x int) api.Op {
	if missing := members(x &^ y); len(missing) > 0 {
		return flip(missing[0], members(y)...)
	}
	return flip(members(y &^ x)[0], members(x)...)
}
