package paths_test

import (
	"math"
	"slices"
	"testing"

	"qloom/api"
	"qloom/paths"
)

// good are sums without a fault.
func good() []api.Sum {
	return []api.Sum{
		nothing(1), nothing(12), sum(0, 0, "0", "0"), sum(0, 0, "0", "1"), sum(0, 0, "0", "0", "0"),
		sum(2, 2, "8 v0v1 + 8 v1v2", "v2"),
		sum(2, -1000, "15 1 + 1 v0 + 3 v1 + 2 v2 + 4 v0v1 + 5 v0v2 + 6 v1v2 + 7 v0v1v2", "1 + v0 + v1 + v2 + v0v1 + v0v2 + v1v2 + v0v1v2"),
		sum(0, 1000, "8 v1", "v1", "1 + v0v1"),
		sum(50, 0, "1 v61", "v11", "v12", "v61", "0", "1", "v0v61", "0", "0", "0", "0", "0", "v1"),
	}
}

func TestCheckOfGoodSums(t *testing.T) {
	for _, s := range good() {
		equal(t, short(s), paths.Check(s), none)
	}
}

func TestCheckOfNumbers(t *testing.T) {
	for in := range 15 {
		s := nothing(in)
		want := none
		if in == 0 || in > 12 {
			want = fault(api.ErrQubits, 0)
		}
		equal(t, "In", paths.Check(s), want)
		equal(t, "In", modelCheck(s), want)
	}
	checks := func(what string, code int, good, bad []int, set func(*api.Sum, int)) {
		for i, n := range slices.Concat(good, bad) {
			s := nothing(2)
			set(&s, n)
			want := none
			if i >= len(good) {
				want = fault(code, 0)
			}
			equal(t, what, paths.Check(s), want)
		}
	}
	checks("In", api.ErrQubits, []int{2}, []int{0, -1, 13, math.MinInt64, math.MaxInt64}, func(s *api.Sum, n int) { s.In = n })
	checks("In and Out", api.ErrShape, []int{2}, []int{1, 3, 12}, func(s *api.Sum, n int) { s.In = n })
	checks("Vars", api.ErrVar, []int{0, 1, 49, 50}, []int{-1, 51, math.MinInt64, math.MaxInt64}, func(s *api.Sum, n int) { s.Vars = n })
	checks("Half", api.ErrRange, []int{0, -1, -999, -1000, 999, 1000}, []int{-1001, 1001, math.MinInt64, math.MaxInt64}, func(s *api.Sum, n int) { s.Half = n })
	checks("Out", api.ErrShape, []int{2}, []int{0, 1}, func(s *api.Sum, n int) { s.Out = s.Out[:n] })
	long := nothing(2)
	long.Out = append(long.Out, nil)
	equal(t, "Out is too long", paths.Check(long), fault(api.ErrShape, 0))
}

// Lists of products that are not written as the document writes them.
func badForms() []string {
	return []string{
		"v3", "v-1", "v0 + v3", "v0v3", "v-1v0", "v0v0", "v1v0", "v0v2v1", "v0v1v1", "v2v2",
		"1 + 1", "v0 + v0", "v0v1 + v0v1", "v0 + 1", "v1 + v0", "v0v1 + v0", "v0v1 + 1", "v0v1v2 + v1v2",
		"v1v2 + v0v1", "v0v2 + v0v1", "v1v2 + v0v2", "v0 + v1 + v0", "1 + v0 + v0v1 + v2", "v2 + v0v1 + v0v2 + v0v2", "v0 + v1 + v2 + v1",
		"v9223372036854775807", "v-9223372036854775808", "v0v9223372036854775807",
	}
}

func TestCheckOfProducts(t *testing.T) {
	for _, text := range badForms() {
		for q := range 2 {
			s := api.Sum{In: 2, Vars: 1, Out: [][][]int{{}, {}}}
			s.Out[q] = form(text)
			equal(t, text, paths.Check(s), fault(api.ErrForm, q))
		}
		s := nothing(2)
		s.Vars = 1
		for _, product := range form(text) {
			s.Phase = append(s.Phase, api.Term{K: 3, Vars: product})
		}
		equal(t, text, paths.Check(s), fault(api.ErrForm, 2))
	}
	equal(t, "three are there", paths.Check(sum(1, 0, "1 v2 + 1 v0v1v2", "v2", "v0v2 + v1v2")), none)
}

// All pairs of products of four variables: just where the first stands ahead of the
// second are they in order.
func TestCheckOfTheOrder(t *testing.T) {
	var all [][]int
	for set := range 16 {
		var list []int
		for v := range 4 {
			if set>>v&1 == 1 {
				list = append(list, v)
			}
		}
		all = append(all, list)
	}
	for _, a := range all {
		for _, b := range all {
			s := api.Sum{In: 1, Vars: 3, Out: [][][]int{{a, b}}}
			equal(t, short(s), paths.Check(s), modelCheck(s))
			s = api.Sum{In: 1, Vars: 3, Out: [][][]int{nil}, Phase: []api.Term{{K: 1, Vars: a}, {K: 2, Vars: b}}}
			equal(t, short(s), paths.Check(s), modelCheck(s))
		}
	}
}

func TestCheckOfTurns(t *testing.T) {
	for k := -3; k < 40; k++ {
		want := none
		if k < 1 || k > 15 {
			want = fault(api.ErrForm, 1)
		}
		for at := range 3 {
			s := sum(1, 0, "1 1 + 1 v0 + 1 v0v1", "v0")
			s.Phase[at].K = k
			equal(t, "K", paths.Check(s), want)
		}
	}
	for _, k := range []int{math.MinInt64, math.MaxInt64, 1 << 32, 1<<32 + 1} {
		equal(t, "K", paths.Check(api.Sum{In: 1, Out: [][][]int{nil}, Phase: []api.Term{{K: k}}}), fault(api.ErrForm, 1))
	}
}

// some are the first so many products of twelve variables.
func some(count int) [][]int {
	var out [][]int
	for length := 0; len(out) < count; length++ {
		for set := range 1 << 12 {
			if list := members(set); len(list) == length {
				out = append(out, list)
			}
		}
	}
	slices.SortStableFunc(out, func(a, b []int) int {
		if len(a) != len(b) {
			return len(a) - len(b)
		}
		return slices.Compare(a, b)
	})
	return out[:count]
}

// members are the variables of a set, rising.
func members(set int) []int {
	var out []int
	for v := range 62 {
		if set>>v&1 == 1 {
			out = append(out, v)
		}
	}
	return out
}

func TestCheckOfManyProducts(t *testing.T) {
	for q := range 12 {
		s := nothing(12)
		s.Out[q] = some(24)
		equal(t, "as many as may be", paths.Check(s), none)
		s.Out[q] = some(25)
		equal(t, "one more", paths.Check(s), fault(api.ErrMany, q))
	}
	s := nothing(12)
	for _, product := range some(300) {
		s.Phase = append(s.Phase, api.Term{K: 9, Vars: product})
	}
	equal(t, "as many as may be", paths.Check(s), none)
	s.Phase = append(s.Phase, api.Term{K: 1, Vars: []int{0, 1, 2, 3, 4}})
	equal(t, "one more", paths.Check(s), fault(api.ErrMany, 12))
}

// Of several faults the first is answered.
func TestOrderOfCheck(t *testing.T) {
	s := api.Sum{In: 13, Vars: 51, Half: 1001, Out: [][][]int{{{0}, {0}}, some(25), {{5}, {4}}}, Phase: make([]api.Term, 301)}
	equal(t, "all at once", paths.Check(s), fault(api.ErrQubits, 0))
	s.In = 4
	equal(t, "then", paths.Check(s), fault(api.ErrVar, 0))
	s.Vars = 2
	equal(t, "then", paths.Check(s), fault(api.ErrRange, 0))
	s.Half = 0
	equal(t, "then", paths.Check(s), fault(api.ErrShape, 0))
	s.In = 3
	equal(t, "then", paths.Check(s), fault(api.ErrForm, 0))
	s.Out[0] = [][]int{{0}, {1}}
	equal(t, "then", paths.Check(s), fault(api.ErrMany, 1))
	s.Out[1] = s.Out[1][:24]
	equal(t, "then", paths.Check(s), fault(api.ErrForm, 1))
	s.Out[1] = nil
	equal(t, "then", paths.Check(s), fault(api.ErrForm, 2))
	s.Out[2] = [][]int{{4}}
	equal(t, "then", paths.Check(s), fault(api.ErrMany, 3))
	s.Phase = s.Phase[:300]
	equal(t, "then", paths.Check(s), fault(api.ErrForm, 3))
	s.Phase = nil
	equal(t, "at last", paths.Check(s), none)
}

// A list that is too long and not in order is too long.
func TestTooManyAheadOfTheForm(t *testing.T) {
	twice := slices.Repeat([][]int{{0}}, 25)
	equal(t, "an output", paths.Check(api.Sum{In: 2, Out: [][][]int{nil, twice}}), fault(api.ErrMany, 1))
	equal(t, "in order", paths.Check(api.Sum{In: 2, Out: [][][]int{nil, twice[:24]}}), fault(api.ErrForm, 1))
}

// odd is a number that is at an edge of something, or far off.
func (n *noise) odd() int {
	edges := []int{0, 1, 2, 3, 4, 5, 7, 8, 11, 12, 13, 15, 16, 24, 25, 49, 50, 51, 61, 62, 63, 64, 65, 128, 1000, 1001, -1, -2, -1000, -1001, math.MinInt64, math.MinInt64 + 1, math.MaxInt64}
	return edges[n.below(len(edges))]
}

// spoil puts an odd thing somewhere into a sum.
func (n *noise) spoil(s *api.Sum) {
	switch n.below(8) {
	case 0:
		*[]*int{&s.In, &s.Vars, &s.Half}[n.below(3)] = n.odd()
	case 1, 2, 3:
		if len(s.Phase) > 0 {
			n.spoilTerm(&s.Phase[n.below(len(s.Phase))])
		}
	case 4:
		if len(s.Phase) > 1 {
			i := n.below(len(s.Phase) - 1)
			s.Phase[i], s.Phase[i+1] = s.Phase[i+1], s.Phase[i]
		}
	default:
		if q := n.below(len(s.Out) + 1); q < len(s.Out) {
			s.Out[q] = append(slices.Clone(s.Out[q]), []int{n.odd()})
		} else {
			s.Out = append(slices.Clone(s.Out), nil)
		}
	}
}

func (n *noise) spoilTerm(term *api.Term) {
	switch n.below(3) {
	case 0:
		term.K = n.odd()
	case 1:
		term.Vars = append(slices.Clone(term.Vars), n.odd())
	case 2:
		if len(term.Vars) > 0 {
			term.Vars = slices.Clone(term.Vars)
			term.Vars[n.below(len(term.Vars))] = n.odd()
		}
	}
}

// Sums without order, most with odd things in them.
func TestCheckOfManySums(t *testing.T) {
	seen := map[int]int{}
	for i := range 30000 {
		n := noise(i)
		s := n.sum(1+n.below(4), n.below(4))
		for range n.below(4) {
			n.spoil(&s)
		}
		f := paths.Check(s)
		equal(t, short(s), f, modelCheck(s))
		seen[f.Code]++
	}
	for _, code := range []int{0, api.ErrQubits, api.ErrVar, api.ErrRange, api.ErrShape, api.ErrForm} {
		equal(t, "sums of each kind", seen[code] > 50, true)
	}
}
