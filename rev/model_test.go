package rev_test

import (
	"qloom/api"
	"qloom/circ"
)

// What the document says, written out once more, without haste.

// modelNodes are the nodes in their order: at most so many.
func modelNodes(e api.Expr, most int) []api.Expr {
	var out []api.Expr
	todo := []api.Expr{e}
	for len(todo) > 0 && len(out) < most {
		next := todo[len(todo)-1]
		todo = todo[:len(todo)-1]
		out = append(out, next)
		for i := min(len(next.Args), most) - 1; i >= 0; i-- {
			todo = append(todo, next.Args[i])
		}
	}
	return out
}

func modelCheck(e api.Expr, n int) api.Fault {
	list := modelNodes(e, api.MaxNodes+1)
	if len(list) > api.MaxNodes {
		return fault(api.ErrLong, 0)
	}
	if n < 0 || n > api.MaxWires {
		return fault(api.ErrQubits, 0)
	}
	for at, node := range list {
		below, uses := 0, false
		switch node.Kind {
		case api.BBit:
			uses = true
		case api.BOne:
		case api.BNot:
			below = 1
		case api.BAnd, api.BOr, api.BXor:
			below = 2
		default:
			return fault(api.ErrKind, at)
		}
		if len(node.Args) != below {
			return fault(api.ErrArgs, at)
		}
		if uses && (node.V < 0 || node.V >= n) {
			return fault(api.ErrVar, at)
		}
		if !uses && node.V != 0 {
			return fault(api.ErrVar, at)
		}
	}
	return none
}

// modelTrue: is an expression without a fault 1 where variable i is bit i of x?
func modelTrue(e api.Expr, x int) bool {
	switch e.Kind {
	case api.BBit:
		return x>>e.V&1 == 1
	case api.BOne:
		return true
	case api.BNot:
		return !modelTrue(e.Args[0], x)
	case api.BAnd:
		return modelTrue(e.Args[0], x) && modelTrue(e.Args[1], x)
	case api.BOr:
		return modelTrue(e.Args[0], x) || modelTrue(e.Args[1], x)
	}
	return modelTrue(e.Args[0], x) != modelTrue(e.Args[1], x)
}

func modelValue(e api.Expr, x int) int {
	if modelTrue(e, x) {
		return 1
	}
	return 0
}

// modelProducts is how many BAnds and BOrs there are.
func modelProducts(e api.Expr) int {
	count := 0
	for _, node := range modelNodes(e, api.MaxNodes) {
		if node.Kind == api.BAnd || node.Kind == api.BOr {
			count++
		}
	}
	return count
}

func modelPlay(c api.Circuit, in int) (int, api.Fault) {
	if f := circ.Check(c); f != none {
		return 0, f
	}
	if in < 0 || in > 1<<c.Qubits-1 {
		return 0, fault(api.ErrInput, 0)
	}
	for at, op := range c.Ops {
		if op.Kind != api.X || len(op.If) != 0 {
			return 0, fault(api.ErrKind, at)
		}
	}
	x := in
	for _, op := range c.Ops {
		all := true
		for _, control := range op.Ctl {
			all = all && x>>control&1 == 1
		}
		if all && x>>op.Q&1 == 1 {
			x -= 1 << op.Q
		} else if all {
			x += 1 << op.Q
		}
	}
	return x, none
}

func modelTable(p []int) api.Fault {
	switch len(p) {
	case 2, 4, 8, 16, 32, 64:
	default:
		return fault(api.ErrSize, 0)
	}
	seen := map[int]bool{}
	for i, to := range p {
		if to < 0 || to > len(p)-1 || seen[to] {
			return fault(api.ErrTable, i)
		}
		seen[to] = true
	}
	return none
}
