package route

import (
	"math/bits"

	"qloom/api"
)

// links has of each qubit the set of those that it is linked to: qubit q is in a
// set whose bit q is 1.
type links [api.MaxQubits]uint16

// linksOf are the links of a device, or its first fault.
func linksOf(d api.Device) (links, api.Fault) {
	var web links
	if d.N < 1 || d.N > api.MaxQubits {
		return links{}, api.Fault{Code: api.ErrQubits}
	}
	for at, link := range d.Links {
		a, b := link[0], link[1]
		if code := web.refuses(a, b, d.N); code != 0 {
			return links{}, api.Fault{Code: code, At: at}
		}
		web[a] |= 1 << b
		web[b] |= 1 << a
	}
	if web.reached(d.N) != 1<<d.N-1 {
		return links{}, api.Fault{Code: api.ErrApart}
	}
	return web, api.Fault{}
}

// refuses is the code of the fault of a link behind those that are there, or 0.
func (web *links) refuses(a, b, qubits int) int {
	switch {
	case a < 0 || a >= qubits || b < 0 || b >= qubits:
		return api.ErrQubit
	case a == b:
		return api.ErrClone
	case web.has(a, b):
		return api.ErrTwice
	}
	return 0
}

// has: are the two qubits linked?
func (web *links) has(a, b int) bool { return web[a]>>b&1 == 1 }

// wider is a set of qubits with all that are linked to them.
func (web *links) wider(set uint16) uint16 {
	out := set
	for q, linked := range web {
		if set>>q&1 == 1 {
			out |= linked
		}
	}
	return out
}

// reached are the qubits to which ways lead from qubit 0. No way that goes through
// no qubit twice has as many links as there are qubits.
func (web *links) reached(qubits int) uint16 {
	set := uint16(1)
	for range qubits - 1 {
		set = web.wider(set)
	}
	return set
}

// toward is the first qubit of a shortest way from one qubit to another: the lowest
// there is, so that it hangs on the device alone. There must be such a way.
func (web *links) toward(from, to int) int {
	near := uint16(1) << to
	for near&web[from] == 0 {
		near = web.wider(near)
	}
	return bits.TrailingZeros16(near & web[from])
}
