package weave_test

import (
	"math/big"
	"slices"

	"qloom/api"
	"qloom/ring"
)

// What the document says, written out once more, without circuits: a program is
// worked through, and gives deeds, which a run does one after the other. A run
// knows its bits; what undoes deeds is the mirror of the matrix that they are; what
// is controlled is done to the part of the state in which the controls are 1.

// deed is something that is done to a run.
type deed func(r *run)

// run is a state, bits, and a tape.
type run struct {
	amps []ring.Num
	bits []int
	tape []int
	used int
	asks bool // an outcome beyond the tape was asked for: nothing is done any more
}

func (r *run) outcome() int {
	if r.used == len(r.tape) {
		r.asks = true
		return 0
	}
	r.used++
	return r.tape[r.used-1]
}

func (r *run) do(deeds []deed) {
	for _, d := range deeds {
		if !r.asks {
			d(r)
		}
	}
}

// entry is a name, and what it stands for: "number", "gate", "qubits", "qubit" (a
// wire without brackets), "bits".
type entry struct {
	name   string
	what   string
	number int
	places []int
	gate   modelGate
}

type modelGate struct {
	numbers int
	wires   []string // "qubit" or "qubits"
	start   string   // the name, of a gate of the start
	node    api.Node
}

// model works a program through.
type model struct {
	names  []entry // of the program
	qubits int
	bits   int
	steps  int
}

// where is what a statement stands in; of two entries of one name the last counts.
type where struct {
	names []entry
	pure  bool
	asked []int
}

func (w where) with(e entry) where {
	w.names = append(slices.Clone(w.names), e)
	return w
}

func (w where) asking(bit int) where {
	w.asked = append(slices.Clone(w.asked), bit)
	return w
}

// meaning is what a program does, or its fault.
func meaning(program api.Node) (m *model, deeds []deed, f api.Fault) {
	defer func() {
		if cause := recover(); cause != nil {
			f = cause.(api.Fault)
		}
	}()
	m = &model{}
	for _, name := range []string{"x", "y", "z", "h", "s", "t"} {
		m.names = append(m.names, entry{name: name, what: "gate", gate: modelGate{wires: []string{"qubit"}, start: name}})
	}
	m.names = append(m.names, entry{name: "p", what: "gate", gate: modelGate{numbers: 1, wires: []string{"qubit"}, start: "p"}})
	m.names = append(m.names, entry{name: "phase", what: "gate", gate: modelGate{numbers: 1, start: "phase"}})
	m.names = append(m.names, entry{name: "swap", what: "gate", gate: modelGate{wires: []string{"qubit", "qubit"}, start: "swap"}})
	for _, item := range program.Kids {
		switch item.Kind {
		case api.NQubit, api.NBit, api.NConst, api.NGate:
			m.names = append(m.names, m.item(item))
		default:
			deeds = append(deeds, m.statement(item, where{names: m.names})...)
		}
	}
	if m.qubits == 0 {
		panic(fault(api.ErrQubits, 0))
	}
	return m, deeds, none
}

func (m *model) item(n api.Node) entry {
	for _, e := range m.names {
		if e.name == n.Name {
			panic(fault(api.ErrTwice, n.At))
		}
	}
	if n.Kind == api.NGate {
		g := modelGate{numbers: len(n.Kids[0].Kids), node: n}
		params := append(slices.Clone(n.Kids[0].Kids), n.Kids[1].Kids...)
		for i, p := range params {
			for _, q := range params[:i] {
				if p.Name == q.Name {
					panic(fault(api.ErrTwice, p.At))
				}
			}
		}
		for _, wire := range n.Kids[1].Kids {
			g.wires = append(g.wires, []string{"qubit", "qubits"}[wire.N])
		}
		return entry{name: n.Name, what: "gate", gate: g}
	}
	value := m.number(n.Kids[0], where{names: m.names})
	if n.Kind == api.NConst {
		return entry{name: n.Name, what: "number", number: value}
	}
	if value < 1 {
		panic(fault(api.ErrRange, n.Kids[0].At))
	}
	what, count, most, code := "qubits", &m.qubits, api.MaxWires, api.ErrQubits
	if n.Kind == api.NBit {
		what, count, most, code = "bits", &m.bits, api.MaxBits, api.ErrBits
	}
	if *count+value > most {
		panic(fault(code, n.At))
	}
	e := entry{name: n.Name, what: what}
	for range value {
		e.places = append(e.places, *count)
		*count++
	}
	return e
}

func (w where) find(name string, at int) entry {
	for _, e := range slices.Backward(w.names) {
		if e.name == name {
			return e
		}
	}
	panic(fault(api.ErrName, at))
}

func (m *model) number(n api.Node, w where) int {
	switch n.Kind {
	case api.NNum:
		return n.N
	case api.NName:
		e := w.find(n.Name, n.At)
		if e.what != "number" {
			panic(fault(api.ErrType, n.At))
		}
		return e.number
	case api.NSize:
		e := w.find(n.Name, n.At)
		if e.what != "qubits" && e.what != "bits" {
			panic(fault(api.ErrType, n.At))
		}
		return len(e.places)
	}
	a, b := new(big.Int), big.NewInt(int64(m.number(n.Kids[0], w)))
	sign := "-" // of an NNeg: 0 - b
	if n.Kind == api.NBin {
		a, b, sign = b, big.NewInt(int64(m.number(n.Kids[1], w))), n.Name
	}
	out := modelOperate(sign, a, b, n.At)
	if most := big.NewInt(api.MaxWhole); out.CmpAbs(most) > 0 {
		panic(fault(api.ErrRange, n.At))
	}
	return int(out.Int64())
}

func modelOperate(sign string, a, b *big.Int, at int) *big.Int {
	out := new(big.Int)
	switch sign {
	case "+":
		return out.Add(a, b)
	case "-":
		return out.Sub(a, b)
	case "*":
		return out.Mul(a, b)
	case "/", "%":
		if b.Sign() == 0 {
			panic(fault(api.ErrZero, at))
		}
		rest := new(big.Int)
		out.DivMod(a, b, rest)
		if sign == "%" {
			return rest
		}
		return out
	case "**":
		if b.Sign() < 0 {
			panic(fault(api.ErrRange, at))
		}
		if a.CmpAbs(big.NewInt(1)) > 0 && b.Cmp(big.NewInt(40)) > 0 {
			b = big.NewInt(40) // too great as it is
		}
		if a.CmpAbs(big.NewInt(1)) <= 0 && b.Cmp(big.NewInt(2)) > 0 {
			b = new(big.Int).Add(big.NewInt(2), new(big.Int).And(b, big.NewInt(1)))
		}
		return out.Exp(a, b, nil)
	}
	holds := map[string][]int{"==": {0}, "!=": {-1, 1}, "<": {-1}, "<=": {-1, 0}, ">": {1}, ">=": {0, 1}}[sign]
	if slices.Contains(holds, a.Cmp(b)) {
		return out.SetInt64(1)
	}
	return out
}

// reference is the places that a reference names, and whether it names a single one.
func (m *model) reference(n api.Node, kind string, w where) (places []int, single bool) {
	e := w.find(n.Name, n.At)
	switch {
	case e.what == "qubit" && kind == "qubits" && n.N == 0:
		return e.places, true
	case e.what != kind:
		panic(fault(api.ErrType, n.At))
	case n.N == 0:
		return e.places, false
	}
	var bounds []int
	for _, kid := range n.Kids {
		bounds = append(bounds, m.number(kid, w))
	}
	if n.N == 1 {
		bounds = append(bounds, bounds[0]+1)
	}
	for i, p := range e.places {
		if bounds[0] <= i && i < bounds[1] {
			places = append(places, p)
		}
	}
	if len(places) == 0 || len(places) != bounds[1]-bounds[0] {
		panic(fault(api.ErrRange, n.At))
	}
	return places, n.N == 1
}

func (m *model) one(n api.Node, kind string, w where) int {
	places, single := m.reference(n, kind, w)
	if !single {
		panic(fault(api.ErrType, n.At))
	}
	return places[0]
}

func (m *model) step(at int) {
	m.steps++
	if m.steps > api.MaxSteps {
		panic(fault(api.ErrSteps, at))
	}
}

func (m *model) block(n api.Node, w where) []deed {
	var out []deed
	for _, kid := range n.Kids {
		out = append(out, m.statement(kid, w)...)
	}
	return out
}

func (m *model) statement(n api.Node, w where) []deed {
	m.step(n.At)
	if w.pure && (n.Kind == api.NIf || n.Kind == api.NMeasure || n.Kind == api.NReset) {
		panic(fault(api.ErrUnitary, n.At))
	}
	var out []deed
	switch n.Kind {
	case api.NApply:
		return m.apply(n, w)
	case api.NFor:
		from, to := m.number(n.Kids[0], w), 0
		for to = m.number(n.Kids[1], w); from < to; from++ {
			m.step(n.At)
			out = append(out, m.block(n.Kids[2], w.with(entry{name: n.Name, what: "number", number: from}))...)
		}
	case api.NWhen:
		if m.number(n.Kids[0], w) != 0 {
			return m.block(n.Kids[1], w)
		}
	case api.NIf:
		return m.choice(n, w)
	case api.NMeasure:
		return m.measure(n, w)
	case api.NReset:
		qubits, _ := m.reference(n.Kids[0], "qubits", w)
		for _, q := range qubits {
			m.step(n.At)
			out = append(out, meeting(q, func(r *run, outcome int) { r.amps = mapped(r.amps, setting(q, 0)) }))
		}
	case api.NWithin:
		before, inner := m.steps, w
		inner.pure = true
		a := m.block(n.Kids[0], inner)
		took := m.steps - before
		b := m.block(n.Kids[1], w)
		for range took {
			m.step(n.At)
		}
		return append(append(append(out, a...), b...), mirror(a))
	case api.NFlip:
		return m.flip(n, w)
	}
	return out
}

func (m *model) choice(n api.Node, w where) []deed {
	bit := m.one(n.Kids[0], "bits", w)
	then := m.block(n.Kids[1], w.asking(bit))
	var other []deed
	if len(n.Kids) > 2 {
		other = m.block(n.Kids[2], w.asking(bit))
	}
	return []deed{func(r *run) {
		if r.bits[bit] == 1-n.N {
			r.do(then)
		} else {
			r.do(other)
		}
	}}
}

func (m *model) measure(n api.Node, w where) []deed {
	qubits, _ := m.reference(n.Kids[0], "qubits", w)
	bits, _ := m.reference(n.Kids[1], "bits", w)
	if len(qubits) != len(bits) {
		panic(fault(api.ErrSize, n.At))
	}
	for _, b := range bits {
		if slices.Contains(w.asked, b) {
			panic(fault(api.ErrBit, n.Kids[1].At))
		}
	}
	var out []deed
	for i, q := range qubits {
		m.step(n.At)
		out = append(out, meeting(q, func(r *run, outcome int) { r.bits[bits[i]] = outcome }))
	}
	return out
}

func (m *model) apply(n api.Node, w where) []deed {
	e := w.find(n.Name, n.At)
	if e.what != "gate" {
		panic(fault(api.ErrType, n.At))
	}
	times, controls := 1, 0
	for _, mod := range n.Kids[0].Kids {
		switch mod.Kind {
		case api.NInv:
			times = -times
		case api.NCtrl:
			controls++
		case api.NPow:
			times *= m.number(mod.Kids[0], w)
			if times < -api.MaxWhole || times > api.MaxWhole {
				panic(fault(api.ErrRange, mod.At))
			}
		}
	}
	if len(n.Kids[1].Kids) != e.gate.numbers {
		panic(fault(api.ErrArgs, n.At))
	}
	var numbers []int
	for _, kid := range n.Kids[1].Kids {
		numbers = append(numbers, m.number(kid, w))
	}
	kinds := append(slices.Repeat([]string{"qubit"}, controls), e.gate.wires...)
	if len(n.Kids[2].Kids) != len(kinds) {
		panic(fault(api.ErrArgs, n.At))
	}
	var ahead []int
	var wires [][]int
	for i, ref := range n.Kids[2].Kids {
		places, single := m.reference(ref, "qubits", w)
		if single != (kinds[i] == "qubit") {
			panic(fault(api.ErrType, ref.At))
		}
		for _, q := range places {
			if slices.Contains(ahead, q) {
				panic(fault(api.ErrClone, ref.At))
			}
		}
		ahead = append(ahead, places...)
		wires = append(wires, places)
	}
	var out []deed
	for i := 0; i < max(times, -times); i++ {
		m.step(n.At)
		once := m.once(e.gate, numbers, wires[controls:])
		if times < 0 {
			once = []deed{mirror(once)}
		}
		out = append(out, controlled(ahead[:controls], once))
	}
	return out
}

// once is what a gate does that is done once.
func (m *model) once(g modelGate, numbers []int, wires [][]int) []deed {
	if g.start != "" {
		return []deed{startDeed(g.start, numbers, slices.Concat(wires...))}
	}
	inner := where{pure: true}
	for _, e := range m.names {
		if e.what == "number" || e.what == "gate" {
			inner = inner.with(e)
		}
	}
	for i, p := range g.node.Kids[0].Kids {
		inner = inner.with(entry{name: p.Name, what: "number", number: numbers[i]})
	}
	for i, p := range g.node.Kids[1].Kids {
		inner = inner.with(entry{name: p.Name, what: g.wires[i], places: wires[i]})
	}
	return m.block(g.node.Kids[2], inner)
}

// bit is what qubit q is in basis state x.
func bit(x, q int) int { return x >> q & 1 }

// part is an amount of a basis state.
type part struct {
	state int
	by    ring.Num
}

// setting takes a basis state to the one in which q is the value.
func setting(q, value int) func(x int) []part {
	return func(x int) []part { return []part{{x + (value-bit(x, q))<<q, ring.Root(0)}} }
}

// mapped is the state in which each basis state becomes what parts says.
func mapped(amps []ring.Num, parts func(x int) []part) []ring.Num {
	out := make([]ring.Num, len(amps))
	for x, a := range amps {
		if a.Zero() {
			continue
		}
		for _, p := range parts(x) {
			out[p.state] = out[p.state].Add(a.Mul(p.by))
		}
	}
	return out
}

// startDeed is what a gate of the start does.
func startDeed(name string, numbers, q []int) deed {
	turn := map[string]int{"z": 8, "s": 4, "t": 2}[name]
	for _, k := range numbers {
		turn = k
	}
	return func(r *run) {
		r.amps = mapped(r.amps, func(x int) []part {
			switch name {
			case "phase":
				return []part{{x, ring.Root(turn)}}
			case "swap":
				a, b := bit(x, q[0]), bit(x, q[1])
				return []part{{x + (b-a)<<q[0] + (a-b)<<q[1], ring.Root(0)}}
			}
			value, over := bit(x, q[0]), x^1<<q[0]
			switch name {
			case "x":
				return []part{{over, ring.Root(0)}}
			case "y":
				return []part{{over, ring.Root([]int{4, -4}[value])}}
			case "h":
				return []part{{min(x, over), ring.Rt()}, {max(x, over), ring.Rt().Turn(8 * value)}}
			}
			return []part{{x, ring.Root(turn * value)}}
		})
	}
}

// meeting takes an outcome of a qubit, and says what is done with it.
func meeting(q int, then func(r *run, outcome int)) deed {
	return func(r *run) {
		outcome := r.outcome()
		if r.asks {
			return
		}
		r.amps = mapped(r.amps, func(x int) []part {
			if bit(x, q) != outcome {
				return nil
			}
			return []part{{x, ring.Root(0)}}
		})
		then(r, outcome)
	}
}

// mirror undoes deeds: of what they make of each basis state the matrix is known,
// and it is unitary.
func mirror(deeds []deed) deed {
	var columns [][]ring.Num
	return func(r *run) {
		if columns == nil {
			for x := range r.amps {
				column := &run{amps: make([]ring.Num, len(r.amps))}
				column.amps[x] = ring.Root(0)
				column.do(deeds)
				columns = append(columns, column.amps)
			}
		}
		out := make([]ring.Num, len(r.amps))
		for x, column := range columns {
			for y, a := range r.amps {
				if !a.Zero() && !column[y].Zero() {
					out[x] = out[x].Add(a.Mul(column[y].Conj()))
				}
			}
		}
		r.amps = out
	}
}

// controlled does deeds to the part of the state in which the controls are 1.
func controlled(controls []int, deeds []deed) deed {
	return func(r *run) {
		touched := &run{amps: make([]ring.Num, len(r.amps))}
		left := slices.Clone(r.amps)
		for x, a := range r.amps {
			if !slices.ContainsFunc(controls, func(c int) bool { return bit(x, c) == 0 }) {
				touched.amps[x], left[x] = a, ring.Num{}
			}
		}
		touched.do(deeds)
		for x := range left {
			left[x] = left[x].Add(touched.amps[x])
		}
		r.amps = left
	}
}

func (m *model) flip(n api.Node, w where) []deed {
	if modelNodes(n.Kids[1]) > 200 {
		panic(fault(api.ErrLong, n.At))
	}
	q := m.one(n.Kids[0], "qubits", w)
	value := m.truth(n.Kids[1], q, w)
	for range modelProducts(value, m.qubits) {
		m.step(n.At)
	}
	return []deed{func(r *run) {
		r.amps = mapped(r.amps, func(x int) []part { return []part{{x ^ value(x)<<q, ring.Root(0)}} })
	}}
}

func modelNodes(n api.Node) int {
	if n.Kind == api.NRef {
		return 1
	}
	count := 1
	for _, kid := range n.Kids {
		count += modelNodes(kid)
	}
	return count
}

// truth is what a truth is in a basis state.
func (m *model) truth(n api.Node, not int, w where) func(x int) int {
	switch n.Kind {
	case api.NOne:
		return func(int) int { return n.N }
	case api.NRef:
		q := m.one(n, "qubits", w)
		if q == not {
			panic(fault(api.ErrClone, n.At))
		}
		return func(x int) int { return bit(x, q) }
	case api.NNot:
		inner := m.truth(n.Kids[0], not, w)
		return func(x int) int { return 1 - inner(x) }
	}
	a := m.truth(n.Kids[0], not, w)
	b := m.truth(n.Kids[1], not, w)
	return func(x int) int {
		switch n.Kind {
		case api.NAnd:
			return min(a(x), b(x))
		case api.NOr:
			return max(a(x), b(x))
		}
		return (a(x) + b(x)) % 2
	}
}

// modelProducts is how many products are in the normal form: that of a set of
// qubits is, if the truth is 1 for an odd number of the sets within it.
func modelProducts(value func(x int) int, qubits int) int {
	count := 0
	for set := range 1 << qubits {
		sum := value(0)
		for within := set; within > 0; within = (within - 1) & set {
			sum += value(within)
		}
		count += sum % 2
	}
	return count
}
