package rev

import (
	"cmp"
	"slices"

	"qloom/api"
)

// table has a 0 or 1 for each set of as many variables as can be: bit i of its
// number says whether variable i is in it.
type table [1 << api.MaxWires]uint8

// tabulate is the table of what tell says of each set.
func tabulate(tell func(set int) uint8) table {
	var out table
	for set := range out {
		out[set] = tell(set)
	}
	return out
}

// truth is what an expression without a fault is where the variables of a set
// are 1 and the others are 0.
func truth(e api.Expr) table {
	m := meaning[table]{
		variable: func(v int) table { return tabulate(func(set int) uint8 { return uint8(set >> v & 1) }) },
		one:      tabulate(func(int) uint8 { return 1 }),
		sum:      sumOfTables,
		product:  func(a, b table) table { return tabulate(func(set int) uint8 { return a[set] & b[set] }) },
	}
	return m.of(e)
}

func sumOfTables(terms ...table) table {
	var out table
	for _, term := range terms {
		for set, value := range term {
			out[set] ^= value
		}
	}
	return out
}

// products are those of which what t tells is the sum, in Normal's order.
func (t table) products() [][]int {
	var out [][]int
	for set, in := range t.coefficients() {
		if in == 1 {
			out = append(out, members(set))
		}
	}
	slices.SortFunc(out, func(a, b []int) int {
		return cmp.Or(cmp.Compare(len(a), len(b)), slices.Compare(a, b))
	})
	return out
}

// coefficients says of each set whether the product of its variables is in the
// sum. What t tells of a set is the sum of the coefficients of all sets within
// it; modulo 2 the same sums lead back, variable by variable.
func (t table) coefficients() table {
	for v := range api.MaxWires {
		for set := range t {
			if set>>v&1 == 1 {
				t[set] ^= t[set^1<<v]
			}
		}
	}
	return t
}
