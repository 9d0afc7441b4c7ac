package paths_test

import (
	"math"
	"slices"
	"strings"
	"testing"

	"qloom/api"
	"qloom/paths"
	"qloom/ring"
)

func TestAmplitudesByHand(t *testing.T) {
	for _, test := range []struct {
		s    api.Sum
		in   int
		want string
	}{
		{nothing(1), 0, "1 0"},
		{nothing(1), 1, "0 1"},
		{nothing(2), 2, "0 0 1 0"},
		{sum(0, 0, "0", "0"), 1, "1 0"},
		{sum(0, 0, "0", "1"), 1, "0 1"},
		{sum(0, 0, "0", "v1", "v0"), 1, "0 0 1 0"},
		{sum(0, 0, "3 v0", "v0"), 0, "1 0"},
		{sum(0, 0, "3 v0", "v0"), 1, "0 0,0,0,1"},
		{sum(0, 0, "9 1", "v0"), 0, "0,-1 0"},
		{sum(0, 1, "0", "v0"), 0, "0,0,1,0,0,0,-1/1 0"},
		{sum(0, -1, "0", "v0"), 0, "0,0,1,0,0,0,-1 0"},
		{sum(0, 2, "0", "v0"), 0, "1/1 0"},
		{sum(0, -2, "0", "v0"), 0, "2 0"},
		{sum(0, 3, "0", "v0"), 0, "0,0,1,0,0,0,-1/2 0"},
		{sum(0, -3, "0", "v0"), 0, "0,0,2,0,0,0,-2 0"},
		{sum(1, 0, "0", "v0"), 0, "2 0"},
		{sum(1, 0, "0", "v1"), 0, "1 1"},
		{sum(1, 0, "8 v1", "v0"), 0, "0 0"},
		{sum(1, 0, "8 v0v1", "v1"), 1, "1 -1"},
		{sum(1, 1, "8 v0v1", "v1"), 1, "0,0,1,0,0,0,-1/1 0,0,-1,0,0,0,1/1"},
		{sum(2, 0, "0", "v1v2"), 0, "3 1"},
		{sum(2, 0, "1 v1 + 2 v2", "0"), 1, "1,1,1,1 0"},
		{sum(2, 2, "4 v1 + 8 v0v1 + 8 v1v2", "v2"), 0, "1,0,0,0,1/1 1,0,0,0,-1/1"},
	} {
		equal(t, short(test.s), strings.Join(amps(t, test.s, test.in), " "), test.want)
	}
}

// Sums without order, held to the values that their phases and outputs have.
func TestAmpsOfManySums(t *testing.T) {
	for i := range 1500 {
		n := noise(i)
		s := n.sum(1+n.below(4), n.below(5))
		s.Half = n.below(25) - 12
		m := modelOf(s)
		for in := range 1 << s.In {
			equal(t, short(s), amps(t, s, in), m.amplitudes(t, in))
		}
	}
}

// Half at its bounds: 2 to the power of 500, up and down, and one over the root of two.
func TestAmpsFarFromOne(t *testing.T) {
	for _, half := range []int{-1000, -999, -501, 501, 999, 1000} {
		want := ring.Root(3)
		for range half {
			want = want.Half()
		}
		for range -half {
			want = want.Mul(rootOfTwo(t))
		}
		equal(t, "far off", amps(t, sum(0, half, "3 1", "v0"), 1), []string{"0", want.Text()})
	}
}

func TestFaultsOfAmps(t *testing.T) {
	for in := 1; in <= 12; in++ {
		s := nothing(in)
		s.Vars = 12
		for _, x := range []int{-1, 1 << in, math.MinInt64, math.MaxInt64} {
			refusedAmps(t, "no basis state", s, x, fault(api.ErrInput, 0))
		}
		s.Vars = 0
		equal(t, "the last", amps(t, s, 1<<in-1)[1<<in-1], "1")
		equal(t, "all", len(amps(t, s, 0)), 1<<in)
	}
	s := nothing(2)
	for s.Vars = range 51 {
		if s.Vars <= 12 {
			equal(t, "so many ways", amps(t, s, 1), []any{0, 1 << s.Vars, 0, 0})
			continue
		}
		refusedAmps(t, "too many variables", s, 0, fault(api.ErrMany, 0))
		refusedAmps(t, "ErrInput comes first", s, 4, fault(api.ErrInput, 0))
	}
	s.Vars = 51
	refusedAmps(t, "Check's come first", s, 4, fault(api.ErrVar, 0))
	refusedAmps(t, "Check's come first", sum(20, 0, "0", "v0", "v1 + v1"), -1, fault(api.ErrForm, 1))
	refusedAmps(t, "Check's come first", sum(20, 0, "16 1", "v0", "v1"), -1, fault(api.ErrForm, 2))
	refusedAmps(t, "no sum", api.Sum{}, 0, fault(api.ErrQubits, 0))
}

// As many of all as may be: qubits, path variables, terms, products.
func TestAmpsOfAsMuchAsMayBe(t *testing.T) {
	d := newDraft(12, 12, -1000)
	n := noise(77)
	for len(d.phase) < 300 {
		d.phase[n.below(1<<24)] = 1 + n.below(15)
	}
	for _, out := range d.outs {
		for len(out) < 24 {
			out[1<<n.below(24)|1<<n.below(24)] = 1
		}
	}
	s := d.sum()
	equal(t, "no fault", paths.Check(s), none)
	list := amps(t, s, 1<<12-1)
	equal(t, "all", len(list), 1<<12)
	ways := ring.Num{}
	for at := range 1 << 12 {
		place := 1<<12 - 1 | at<<12
		end, turn := 0, 0
		for q, out := range s.Out {
			for _, product := range out {
				if holds(product, place) {
					end ^= 1 << q
				}
			}
		}
		for _, term := range s.Phase {
			if holds(term.Vars, place) {
				turn += term.K
			}
		}
		if end == 5 {
			ways = ways.Add(ring.Root(turn))
		}
	}
	for range 1000 {
		ways = ways.Mul(rootOfTwo(t))
	}
	equal(t, "one of them", list[5], ways.Text())
	equal(t, "some are not 0", slices.ContainsFunc(list, func(s string) bool { return s != "0" }), true)
}
