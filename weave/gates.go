package weave

import (
	"slices"

	"qloom/api"
)

// What gates do.
const (
	doBody = iota
	doX
	doY
	doH
	doSwap
	doTurn
	doTurnAll
)

// gate is what an application does.
type gate struct {
	does    int
	turn    int // sixteenths by which a gate of the start turns, beside its number
	numbers []api.Node
	wires   []api.Node
	body    api.Node
}

// startNames are the gates that are there at the start.
func startNames() map[string]thing {
	return map[string]thing{
		"x":     startGate(0, 1, doX, 0),
		"y":     startGate(0, 1, doY, 0),
		"z":     startGate(0, 1, doTurn, 8),
		"h":     startGate(0, 1, doH, 0),
		"s":     startGate(0, 1, doTurn, 4),
		"t":     startGate(0, 1, doTurn, 2),
		"p":     startGate(1, 1, doTurn, 0),
		"phase": startGate(1, 0, doTurnAll, 0),
		"swap":  startGate(0, 2, doSwap, 0),
	}
}

func startGate(numbers, wires, does, turn int) thing {
	return thing{kind: aGate, gate: &gate{does: does, turn: turn, numbers: make([]api.Node, numbers), wires: make([]api.Node, wires)}}
}

// ownGate is a gate that a program lays down.
func ownGate(n api.Node) thing {
	g := &gate{does: doBody, numbers: kid(n, 0).Kids, wires: kid(n, 1).Kids, body: kid(n, 2)}
	ahead := map[string]int{}
	for _, param := range slices.Concat(g.numbers, g.wires) {
		if ahead[param.Name] > 0 {
			refuse(api.ErrTwice, param.At)
		}
		ahead[param.Name]++
	}
	return thing{kind: aGate, gate: g}
}

// call is how often a gate is done, where, and to what.
type call struct {
	times    int // below 0: so often it is undone
	controls []int
	numbers  []int
	wires    []span
}

// names are what the names of a gate's numbers and wires stand for.
func (c call) names(g *gate) map[string]thing {
	out := map[string]thing{}
	for i, param := range g.numbers {
		out[param.Name] = thing{kind: aNumber, number: c.numbers[i]}
	}
	for i, param := range g.wires {
		out[param.Name] = thing{kind: someQubits, span: c.wires[i]}
	}
	return out
}

func (w *weaver) apply(n api.Node) {
	t := w.need(n.Name, n.At)
	if t.kind != aGate {
		refuse(api.ErrType, n.At)
	}
	c := w.call(n, t.gate)
	outer := w.setting
	w.controls = slices.Concat(outer.controls, c.controls)
	if t.gate.does == doBody {
		w.doOwn(t.gate, c, n.At)
	} else {
		w.spend(abs(c.times), n.At)
		w.doStart(t.gate, c)
	}
	w.setting = outer
}

// call is what an application says of how a gate is done.
func (w *weaver) call(n api.Node, g *gate) call {
	var out call
	var controls int
	out.times, controls = w.mods(kid(n, 0).Kids)
	numbers, refs := kid(n, 1).Kids, kid(n, 2).Kids
	if len(numbers) != len(g.numbers) {
		refuse(api.ErrArgs, n.At)
	}
	for _, number := range numbers {
		out.numbers = append(out.numbers, w.number(number))
	}
	if len(refs) != controls+len(g.wires) {
		refuse(api.ErrArgs, n.At)
	}
	spans := w.unlike(refs, controls, g.wires)
	for _, control := range spans[:controls] {
		out.controls = append(out.controls, control.first)
	}
	out.wires = spans[controls:]
	return out
}

// mods is how often an application is done, and how many controls it has.
func (w *weaver) mods(mods []api.Node) (times, controls int) {
	times = 1
	for _, mod := range mods {
		switch mod.Kind {
		case api.NInv:
			times = -times
		case api.NCtrl:
			controls++
		case api.NPow:
			times = inRange(times*w.number(kid(mod, 0)), mod.At)
		default:
			refuse(api.ErrKind, mod.At)
		}
	}
	return times, controls
}

// unlike are the qubits of references for so many controls, and for wires behind
// these: no two of them name the same one.
func (w *weaver) unlike(refs []api.Node, controls int, wires []api.Node) []span {
	ahead := map[int]int{}
	var out []span
	for i, ref := range refs {
		asksOne := i < controls || wires[i-controls].N != 1
		s := w.reference(ref, someQubits)
		if s.alone != asksOne {
			refuse(api.ErrType, ref.At)
		}
		for q := range s.all() {
			if ahead[q] > 0 {
				refuse(api.ErrClone, ref.At)
			}
			ahead[q]++
		}
		out = append(out, s)
	}
	return out
}

// doOwn does a gate of the program's, for an application at a place.
func (w *weaver) doOwn(g *gate, c call, at int) {
	w.hiding, w.inGate, w.pure = c.names(g), true, true
	for range abs(c.times) {
		w.spend(1, at)
		start := len(w.ops)
		w.block(g.body)
		if c.times < 0 {
			w.ops = append(w.ops[:start], undone(w.ops[start:])...)
		}
	}
}

// doStart does a gate of the start. All of its times are one turn, or nothing and
// the gate itself by turns: else the circuit could become too long.
func (w *weaver) doStart(g *gate, c call) {
	turn := g.turn
	for _, number := range c.numbers {
		turn += number
	}
	isOdd := c.times%2 != 0
	switch {
	case g.does == doTurnAll:
		w.turnAll(turn * c.times)
	case g.does == doTurn:
		w.turn(c.wires[0].first, turn*c.times)
	case isOdd && g.does == doX:
		w.putGate(api.Op{Kind: api.X, Q: c.wires[0].first})
	case isOdd && g.does == doH:
		w.putGate(api.Op{Kind: api.H, Q: c.wires[0].first})
	case isOdd && g.does == doY:
		w.turnOverAndBack(c.wires[0].first)
	case isOdd && g.does == doSwap:
		w.exchange(c.wires[0].first, c.wires[1].first)
	}
}
