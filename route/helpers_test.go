package route_test

import (
	"fmt"
	"math"
	"slices"
	"strings"
	"testing"

	"qloom/api"
	"qloom/circ"
	"qloom/route"
)

// none is the fault of a call that has none.
var none = api.Fault{}

func fault(code, at int) api.Fault { return api.Fault{Code: code, At: at} }

// equal holds two things against each other as they are told: a list without
// elements is the same, be it nil or empty.
func equal(t *testing.T, what string, got, want any) {
	t.Helper()
	if g, w := fmt.Sprintf("%+v", got), fmt.Sprintf("%+v", want); g != w {
		t.Errorf("%s: %s, want %s", short(what), short(g), short(w))
	}
}

// short is what is told of a thing that may be long.
func short(thing any) string {
	s := fmt.Sprint(thing)
	return fmt.Sprintf("%q", s[:min(len(s), 600)])
}

// circuit makes one of its lines, written without the ends of lines.
func circuit(t *testing.T, lines ...string) api.Circuit {
	t.Helper()
	c, f := circ.Parse(strings.Join(lines, "\n") + "\n")
	if f != none {
		t.Fatalf("Parse of %s: %v", short(lines), f)
	}
	return c
}

// fit is Fit's answer where nothing is refused.
func fit(t *testing.T, c api.Circuit, d api.Device) api.Routed {
	t.Helper()
	out, f := route.Fit(c, d)
	if f != none {
		t.Fatalf("Fit of %s on %s: %v", short(c), short(d), f)
	}
	return out
}

// refused holds Fit to a fault, beside which nothing is answered.
func refused(t *testing.T, what string, c api.Circuit, d api.Device, want api.Fault) {
	t.Helper()
	out, f := route.Fit(c, d)
	if f != want || !isEmpty(out) {
		t.Errorf("%s: Fit of %s on %s: %s, %v, want %v", what, short(c), short(d), short(out), f, want)
	}
}

// isEmpty: is nothing answered?
func isEmpty(r api.Routed) bool {
	return r.Circuit.Qubits == 0 && r.Circuit.Bits == 0 && len(r.Circuit.Ops)+len(r.Start)+len(r.End) == 0
}

// unscheduled holds Schedule to a fault, beside which nothing is answered.
func unscheduled(t *testing.T, what string, c api.Circuit, times api.Times, want api.Fault) {
	t.Helper()
	begins, end, f := route.Schedule(c, times)
	if f != want || len(begins) != 0 || end != 0 {
		t.Errorf("%s: Schedule of %s by %v: %s, %d, %v, want %v", what, short(c), times, short(begins), end, f, want)
	}
}

// cx is an X with a control.
func cx(control, q int) api.Op { return api.Op{Kind: api.X, Q: q, Ctl: []int{control}} }

// span are the numbers from 0 to n - 1.
func span(n int) []int {
	out := make([]int, n)
	for i := range out {
		out[i] = i
	}
	return out
}

// row is a device whose qubits stand in a row.
func row(n int) api.Device {
	d := api.Device{N: n}
	for q := range n - 1 {
		d.Links = append(d.Links, [2]int{q, q + 1})
	}
	return d
}

// circle is a row whose ends are linked, too.
func circle(n int) api.Device {
	d := row(n)
	if n > 2 {
		d.Links = append(d.Links, [2]int{n - 1, 0})
	}
	return d
}

// star is a device of which one qubit is linked to all others.
func star(n, middle int) api.Device {
	d := api.Device{N: n}
	for q := range n {
		if q != middle {
			d.Links = append(d.Links, [2]int{q, middle})
		}
	}
	return d
}

// full is a device with all links that can be.
func full(n int) api.Device { return linked(n, -1) }

// grid is a device whose qubits stand in rows and columns.
func grid(rows, cols int) api.Device {
	d := api.Device{N: rows * cols}
	for q := range d.N {
		if q%cols > 0 {
			d.Links = append(d.Links, [2]int{q, q - 1})
		}
		if q >= cols {
			d.Links = append(d.Links, [2]int{q - cols, q})
		}
	}
	return d
}

// linked is a device with those of all links that can be that choice has as its bits.
func linked(n, choice int) api.Device {
	d := api.Device{N: n}
	at := 0
	for a := range n {
		for b := range a {
			if choice>>at&1 == 1 {
				d.Links = append(d.Links, [2]int{a, b})
			}
			at++
		}
	}
	return d
}

// whole are all devices of so many qubits that are in one part, each link once.
func whole(n int) []api.Device {
	var out []api.Device
	for choice := range 1 << (n * (n - 1) / 2) {
		if d := linked(n, choice); isWhole(d) {
			out = append(out, d)
		}
	}
	return out
}

// known are devices of so many qubits of each kind, some with the qubits' numbers mixed.
func known(n int) []api.Device {
	mix := noise(n)
	out := []api.Device{row(n), circle(n), star(n, 0), star(n, n-1), full(n)}
	for range 3 {
		out = append(out, mix.renamed(row(n)), mix.renamed(star(n, 0)), mix.device(n))
	}
	for rows := 2; rows < n; rows++ {
		if n%rows == 0 {
			out = append(out, grid(rows, n/rows), mix.renamed(grid(rows, n/rows)))
		}
	}
	return out
}

// copyOf has lists of its own.
func copyOf(c api.Circuit) api.Circuit {
	c.Ops = slices.Clone(c.Ops)
	for i, op := range c.Ops {
		c.Ops[i].Ctl, c.Ops[i].If = slices.Clone(op.Ctl), slices.Clone(op.If)
	}
	return c
}

// noise is a row of numbers that looks without order, and is the same each time.
type noise uint64

func (n *noise) below(bound int) int {
	*n = *n*6364136223846793005 + 1442695040888963407
	return int(uint64(*n)>>33) % bound
}

// order is 0 to length - 1, without order.
func (n *noise) order(length int) []int {
	out := make([]int, length)
	for i := range out {
		j := n.below(i + 1)
		out[i], out[j] = out[j], i
	}
	return out
}

// renamed is a device with other numbers for its qubits, and its links turned and in
// another order.
func (n *noise) renamed(d api.Device) api.Device {
	out := api.Device{N: d.N}
	names := n.order(d.N)
	for _, at := range n.order(len(d.Links)) {
		turn := n.below(2)
		link := d.Links[at]
		out.Links = append(out.Links, [2]int{names[link[turn]], names[link[1-turn]]})
	}
	return out
}

// device is one in one part, with some links more than it needs for that.
func (n *noise) device(qubits int) api.Device {
	d := api.Device{N: qubits}
	for q := 1; q < qubits; q++ {
		d.Links = append(d.Links, [2]int{q, n.below(q)})
	}
	for range n.below(3) {
		a, b := n.below(qubits), n.below(qubits)
		if a != b && !areLinked(d, a, b) {
			d.Links = append(d.Links, [2]int{a, b})
		}
	}
	return n.renamed(d)
}

// op is one of any kind that Fit takes.
func (n *noise) op(qubits, bits int) api.Op {
	order := n.order(qubits)
	q := order[0]
	kinds := []api.Op{{Kind: api.Phase, K: n.below(16)}, {Kind: api.X, Q: q}, {Kind: api.H, Q: q}, {Kind: api.P, K: n.below(16), Q: q}, {Kind: api.Reset, Q: q}}
	if bits > 0 {
		kinds = append(kinds, api.Op{Kind: api.Measure, Q: q, Bit: n.below(bits)})
	}
	if qubits > 1 {
		kinds = append(kinds, slices.Repeat([]api.Op{cx(order[1], q)}, 5)...)
	}
	op := kinds[n.below(len(kinds))]
	for bits > 0 && n.below(4) == 0 {
		op.If = append(op.If, (1+n.below(bits))*(1-2*n.below(2)))
	}
	return op
}

// circuit is one of so many operations that Fit takes.
func (n *noise) circuit(qubits, bits, ops int) api.Circuit {
	c := api.Circuit{Qubits: qubits, Bits: bits}
	for range ops {
		op := n.op(qubits, bits)
		op.Ctl = slices.Clone(op.Ctl)
		c.Ops = append(c.Ops, op)
	}
	return c
}

// odd is a number that is no qubit, bit or kind, or a small one.
func (n *noise) odd() int {
	return []int{math.MinInt64, math.MinInt64 + 1, -1 << 32, -13, -1, 0, 1, 2, 3, 4, 7, 11, 12, 13, 16, 1 << 32, math.MaxInt64}[n.below(17)]
}

// spoil puts an odd number somewhere into a circuit.
func (n *noise) spoil(c *api.Circuit) {
	odd := n.odd()
	if len(c.Ops) == 0 || n.below(8) == 0 {
		*[]*int{&c.Qubits, &c.Bits}[n.below(2)] = odd
		return
	}
	op := &c.Ops[n.below(len(c.Ops))]
	switch n.below(7) {
	case 0:
		op.Kind = odd
	case 1:
		op.K = odd
	case 2:
		op.Q = odd
	case 3:
		op.Bit = odd
	case 4, 5:
		op.Ctl = append(slices.Clone(op.Ctl), odd)
	case 6:
		op.If = append(slices.Clone(op.If), odd)
	}
}

// spoilDevice puts an odd number somewhere into a device, takes a link away, or puts
// one there twice.
func (n *noise) spoilDevice(d *api.Device) {
	d.Links = slices.Clone(d.Links)
	if len(d.Links) == 0 || n.below(8) == 0 {
		d.N = n.odd()
		return
	}
	at := n.below(len(d.Links))
	switch n.below(4) {
	case 0:
		d.Links[at][n.below(2)] = n.odd()
	case 1:
		d.Links[at][1] = d.Links[at][0]
	case 2:
		d.Links = slices.Delete(d.Links, at, at+1)
	case 3:
		turn := n.below(2)
		again := [2]int{d.Links[at][turn], d.Links[at][1-turn]}
		d.Links = slices.Insert(d.Links, n.below(len(d.Links)+1), again)
	}
}
