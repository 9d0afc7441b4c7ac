package code

import (
	"maps"
	"slices"

	"qloom/api"
	"qloom/pauli"
)

// frame is a code as it is reckoned with.
type frame struct {
	qubits int
	gens   []pauli.Pauli
	group  group
}

// group is all products of generators, but for their signs.
type group map[pauli.Pauli]struct{}

// has: is the Pauli in the group, but for its sign?
func (g group) has(p pauli.Pauli) bool {
	p.Minus = false
	_, ok := g[p]
	return ok
}

// grow adds all products with one generator more.
func (g group) grow(gen pauli.Pauli) {
	for _, p := range slices.Collect(maps.Keys(g)) {
		g[p.Letters(gen)] = struct{}{}
	}
}

// read is a code as it is reckoned with, or its first fault.
func read(c api.Code) (frame, api.Fault) {
	switch {
	case c.N < 1 || c.N > api.MaxCode:
		return frame{}, api.Fault{Code: api.ErrQubits}
	case len(c.Gens) > c.N:
		return frame{}, api.Fault{Code: api.ErrMany}
	}
	f := frame{qubits: c.N, group: group{pauli.Pauli{}: {}}}
	for at, text := range c.Gens {
		p, ok := pauli.Parse(text, c.N)
		if !ok {
			return frame{}, api.Fault{Code: api.ErrPauli, At: at}
		}
		f.gens = append(f.gens, p)
	}
	if at := f.firstApart(); at >= 0 {
		return frame{}, api.Fault{Code: api.ErrCommute, At: at}
	}
	if at := f.fillGroup(); at >= 0 {
		return frame{}, api.Fault{Code: api.ErrDepend, At: at}
	}
	return f, api.Fault{}
}

// firstApart is the number of the first generator that does not commute with one ahead
// of it; -1, if there is none.
func (f frame) firstApart() int {
	for at, gen := range f.gens {
		apart := func(p pauli.Pauli) bool { return !p.Commutes(gen) }
		if slices.ContainsFunc(f.gens[:at], apart) {
			return at
		}
	}
	return -1
}

// fillGroup makes the group of all generators, up to the first one that is in the group
// of those ahead of it, of which it tells the number; -1, if there is none.
func (f frame) fillGroup() int {
	for at, gen := range f.gens {
		if f.group.has(gen) {
			return at
		}
		f.group.grow(gen)
	}
	return -1
}
