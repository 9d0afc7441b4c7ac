package weave_test

import (
	"fmt"
	"slices"
	"strconv"
	"strings"
)

// author writes programs without order, in which most things are as they should be.
type author struct {
	noise
	mischief int // of 1000 places, how many have something else than what should stand there
	room     int // how much more is written before an end is looked for
	meetings int // how many measurements and resets are written yet
	serial   int // numbers names
}

// view is what can be named where something is written.
type view struct {
	numbers []string
	ones    []string // wires without brackets
	rows    []row    // registers of qubits, wires with brackets
	bits    []row
	asked   []string // bits that must not be measured into
	gates   []signature
	meets   bool // measurements and resets may stand here
	deep    int
}

type row struct {
	name string
	size int // at least
}

type signature struct {
	name    string
	numbers int
	wires   []bool // with brackets?
}

// program is a program's text.
func (a *author) program(room int) string {
	a.room, a.meetings, a.serial = room, 3, 0
	v := view{meets: true}
	for _, name := range []string{"x", "y", "z", "h", "s", "t"} {
		v.gates = append(v.gates, signature{name: name, wires: []bool{false}})
	}
	v.gates = append(v.gates, signature{name: "p", numbers: 1, wires: []bool{false}}, signature{name: "phase", numbers: 1}, signature{name: "swap", wires: []bool{false, false}})
	var out []string
	qubits, bits := 1+a.below(3), a.below(4)
	for qubits > 0 || bits > 0 || a.room > 0 {
		switch a.below(6) {
		case 0, 1:
			if qubits > 0 {
				r := row{a.fresh("q"), 1 + a.below(qubits)}
				qubits -= r.size
				out = append(out, fmt.Sprintf("qubit %s[%s];", a.name(r.name), a.size(r.size)))
				v.rows = append(v.rows, r)
			}
		case 2:
			if bits > 0 {
				r := row{a.fresh("b"), 1 + a.below(bits)}
				bits -= r.size
				out = append(out, fmt.Sprintf("bit %s[%s];", a.name(r.name), a.size(r.size)))
				v.bits = append(v.bits, r)
			}
		case 3:
			name := a.fresh("k")
			out = append(out, fmt.Sprintf("const %s = %s;", a.name(name), a.expr(v)))
			v.numbers = append(v.numbers, name)
		case 4:
			text, s := a.gate(v)
			out = append(out, text)
			v.gates = append(v.gates, s, s, s)
		case 5:
			if len(v.rows) > 0 {
				out = append(out, a.statements(v))
			}
		}
		a.room--
	}
	for range 3 {
		a.room = 4
		out = append(out, a.statements(v))
	}
	return strings.Join(out, "\n")
}

// odd: should something else stand here than what should?
func (a *author) odd() bool { return a.below(1000) < a.mischief }

// fresh is a name that is not there yet.
func (a *author) fresh(letter string) string {
	a.serial++
	return letter + strconv.Itoa(a.serial)
}

// name is the name, mostly.
func (a *author) name(name string) string {
	if a.odd() {
		return a.pick("x", "swap", "q1", "b2", "k3", "g4", "q2", "b1", "k2", "g3", "w5", "nobody", "i4", "i5", "i6", "phase")
	}
	return name
}

func (a *author) size(n int) string {
	if a.odd() {
		return a.pick("0", "-1", "9", "13", "1 - 1", "2 ** 30", "1 / 0", "nobody")
	}
	return a.pick(strconv.Itoa(n), fmt.Sprintf("%d - 2", n+2), fmt.Sprintf("(%d)", n))
}

// expr is a number, of which not much is known.
func (a *author) expr(v view) string {
	if a.odd() {
		return a.pick("1 / 0", "2 % (1 - 1)", "2 ** -1", "2 ** 31", "600000000 * 2", "-(2 ** 30) - 1", "nobody", "x", "size(nobody)", "size(x)", "q1", "size("+a.name("k2")+")", a.name("w3"))
	}
	v.deep++
	unit := func() string {
		if len(v.numbers) > 0 && a.below(2) == 0 {
			return a.name(v.numbers[a.below(len(v.numbers))])
		}
		if rows := slices.Concat(v.rows, v.bits); len(rows) > 0 && a.below(4) == 0 {
			return "size(" + a.name(rows[a.below(len(rows))].name) + ")"
		}
		return strconv.Itoa(a.below(7))
	}
	if v.deep > 3 || a.below(2) == 0 {
		return unit()
	}
	switch a.below(6) {
	case 0:
		return "(" + a.expr(v) + a.pick(" + ", " - ") + a.expr(v) + ")"
	case 1:
		return "(" + a.expr(v) + ") % 5" + a.pick("", " * "+unit()+" % 7")
	case 2:
		return "(" + a.expr(v) + a.pick(" == ", " != ", " < ", " <= ", " > ", " >= ") + a.expr(v) + ")"
	case 3:
		return "-" + unit()
	case 4:
		return "(" + unit() + " - 3) / " + a.pick("2", "(-2)", "3")
	}
	return "(" + a.expr(v) + ") % 3 ** " + a.pick("0", "1", "2")
}

// index is a number that a row has, mostly.
func (a *author) index(v view, r row) string {
	if a.odd() {
		return a.pick("-1", "size("+r.name+")", "7", "1 / 0", "nobody", "0 .. 0", "0 .. 9", "1 .. 0", "0 .. 1")
	}
	if a.below(3) == 0 {
		return "(" + a.expr(v) + ") % size(" + r.name + ")"
	}
	return strconv.Itoa(a.below(r.size))
}

// row is a reference to several qubits or bits, and how many these are at least.
func (a *author) row(rows []row) (string, int) {
	r := rows[a.below(len(rows))]
	switch a.below(4) {
	case 0:
		return a.name(r.name) + "[0 .. 1]", 1
	case 1:
		from := a.below(r.size)
		to := from + 1 + a.below(r.size-from)
		return fmt.Sprintf("%s[%d .. %d]", a.name(r.name), from, to), to - from
	}
	return a.name(r.name), r.size
}

// qubits are references to single qubits, mostly unlike ones.
func (a *author) qubits(v view) []string {
	out := slices.Clone(v.ones)
	for _, r := range v.rows {
		for i := range r.size {
			out = append(out, fmt.Sprintf("%s[%d]", r.name, i))
		}
		if a.below(8) == 0 {
			out[len(out)-1] = r.name + "[" + a.index(v, r) + "]"
		}
	}
	var mixed []string
	for _, i := range a.order(len(out)) {
		mixed = append(mixed, out[i])
	}
	if a.odd() {
		mixed = append([]string{a.pick("nobody", "x", "q1", "q2", "b1[0]", "k2", "q1[0 .. 1]", mixed[0], mixed[len(mixed)-1])}, mixed...)
	}
	return mixed
}

func (a *author) statements(v view) string {
	v.deep++
	out := []string{a.statement(v)}
	for a.room > 0 && a.below(3) > 0 {
		out = append(out, a.statement(v))
	}
	return strings.Join(out, " ")
}

func (a *author) block(v view) string {
	if a.below(10) == 0 || v.deep > 6 {
		return "{ }"
	}
	return "{ " + a.statements(v) + " }"
}

func (a *author) statement(v view) string {
	a.room--
	kind := a.below(14)
	if v.deep > 4 {
		kind = 13
	}
	switch kind {
	case 0:
		i := a.fresh("i")
		if a.below(3) == 0 && len(v.numbers) > 0 {
			i = v.numbers[a.below(len(v.numbers))]
		}
		from, to := a.pick("0", "1", "-1"), a.pick("0", "1", "2", "(1 + 1)")
		if a.odd() {
			i, to = a.pick("x", "q1", "g3", "w4"), a.pick("1 / 0", "2000", "nobody")
		}
		inner := v
		inner.numbers = append(slices.Clone(v.numbers), i)
		return fmt.Sprintf("for %s in %s .. %s %s", i, from, to, a.block(inner))
	case 1:
		return "when " + a.expr(v) + " " + a.block(v)
	case 2, 3:
		if v.meets && len(v.bits) > 0 || a.odd() {
			return a.choice(v)
		}
	case 4, 5:
		if v.meets && a.meetings > 0 || a.odd() {
			return a.meeting(v)
		}
	case 6, 7:
		inner := v
		inner.meets = false
		return "within " + a.block(inner) + " apply " + a.block(v)
	case 8, 9:
		return a.flip(v)
	}
	return a.application(v)
}

func (a *author) choice(v view) string {
	c := "nobody[0]"
	if len(v.bits) > 0 {
		r := v.bits[a.below(len(v.bits))]
		c = r.name + "[" + a.index(v, r) + "]"
		v.asked = append(slices.Clone(v.asked), r.name)
	}
	if a.odd() {
		c = a.pick("b1", "q1[0]", "x", "b2[9]")
	}
	text := "if " + a.pick("", "!") + c + " " + a.block(v)
	if a.below(2) == 0 {
		text += " else " + a.block(v)
	}
	return text
}

func (a *author) meeting(v view) string {
	a.meetings--
	from, count := "nobody", 1
	if len(v.rows) > 0 {
		from, count = a.row(v.rows)
	}
	var free []row
	for _, r := range v.bits {
		if !slices.Contains(v.asked, r.name) || a.odd() || a.mischief > 0 && a.below(8) == 0 {
			free = append(free, r)
		}
	}
	if len(free) == 0 || a.below(3) == 0 {
		return "reset " + from + ";"
	}
	to := free[a.below(len(free))]
	if to.size < count {
		from, count = a.qubits(v)[0], 1
	}
	if a.odd() || a.mischief > 0 && a.below(20) == 0 {
		return fmt.Sprintf("measure %s -> %s;", from, to.name)
	}
	at := a.below(max(1, to.size-count+1))
	return fmt.Sprintf("measure %s -> %s[%d .. %d];", from, a.name(to.name), at, at+count)
}

func (a *author) flip(v view) string {
	qubits := a.qubits(v)
	others := qubits[1:]
	if a.odd() {
		others = append(others, qubits[0])
	}
	return qubits[0] + " ^= " + a.truth(others, 0) + ";"
}

func (a *author) truth(qubits []string, deep int) string {
	if len(qubits) == 0 || deep > 3 || a.below(3) == 0 {
		if len(qubits) == 0 || a.below(6) == 0 {
			return a.pick("0", "1")
		}
		return qubits[a.below(len(qubits))]
	}
	switch a.below(4) {
	case 0:
		return "!" + a.pick("", "!") + "(" + a.truth(qubits, deep+1) + ")"
	case 1:
		return "(" + a.truth(qubits, deep+1) + " | " + a.truth(qubits, deep+1) + ")"
	case 2:
		return a.truth(qubits, deep+1) + " & (" + a.truth(qubits, deep+1) + ")"
	}
	return a.truth(qubits, deep+1) + " ^ " + a.truth(qubits, deep+1)
}

func (a *author) application(v view) string {
	qubits := a.qubits(v)
	g := v.gates[a.below(len(v.gates))]
	for len(g.wires) > len(qubits) || slices.Contains(g.wires, true) && len(v.rows) == 0 {
		g = v.gates[a.below(len(v.gates))]
	}
	var refs, mods []string
	for _, many := range g.wires {
		switch {
		case many:
			r := v.rows[a.below(len(v.rows))]
			refs = append(refs, r.name)
			qubits = slices.DeleteFunc(qubits, func(q string) bool { return strings.HasPrefix(q, r.name+"[") })
		case len(qubits) > 0:
			refs = append(refs, qubits[0])
			qubits = qubits[1:]
		default:
			refs = append(refs, "q1[0]")
		}
	}
	if a.odd() && len(refs) > 0 {
		refs = refs[1:]
	}
	for a.below(3) == 0 {
		switch {
		case a.below(3) == 0:
			mods = append(mods, "inv @ ")
		case a.below(2) == 0:
			mods = append(mods, "pow("+a.pick("0", "-1", "2", "3", "-2", "(1 == 1)")+") @ ")
		case len(qubits) > 0:
			mods = append(mods, "ctrl @ ")
			refs = append([]string{qubits[0]}, refs...)
			qubits = qubits[1:]
		}
	}
	if a.odd() {
		mods = append(mods, a.pick("pow(2 ** 30) @ ", "pow(1 / 0) @ ", "ctrl @ ", "pow(2 ** 30) @ pow(2) @ ", "pow(2) @ pow(-(2 ** 30)) @ "))
	}
	numbers := ""
	for i := range g.numbers {
		numbers += []string{"(", ", "}[min(i, 1)] + a.expr(v)
	}
	if numbers != "" {
		numbers += ")"
	}
	if a.odd() {
		numbers = a.pick("", "(1)", "(1, 2)", "(nobody)", "(1 / 0)")
	}
	return strings.Join(mods, "") + a.name(g.name) + numbers + " " + strings.Join(refs, ", ") + ";"
}

// gate is a gate's item, and how it is applied. Its wires with brackets have at least one qubit.
func (a *author) gate(v view) (string, signature) {
	s := signature{name: a.fresh("g"), numbers: a.below(3)}
	inner := view{numbers: slices.Clone(v.numbers), gates: v.gates, deep: 2}
	var numbers, wires []string
	for range s.numbers {
		name := a.fresh("n")
		numbers = append(numbers, a.name(name))
		inner.numbers = append(inner.numbers, name, name)
	}
	for len(wires) == 0 || a.below(3) == 0 {
		name := a.fresh("w")
		many := a.below(3) == 0
		s.wires = append(s.wires, many)
		if many {
			wires = append(wires, a.name(name)+"[]")
			inner.rows = append(inner.rows, row{name, 1})
		} else {
			wires = append(wires, a.name(name))
			inner.ones = append(inner.ones, name)
		}
	}
	brackets := ""
	if len(numbers) > 0 {
		brackets = "(" + strings.Join(numbers, ", ") + ")"
	}
	a.room -= 3
	return fmt.Sprintf("gate %s%s %s %s", a.name(s.name), brackets, strings.Join(wires, ", "), a.block(inner)), s
}
