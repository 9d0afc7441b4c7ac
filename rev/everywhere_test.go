package rev_test

import (
	"math"
	"reflect"
	"slices"
	"testing"

	"qloom/api"
	"qloom/rev"
)

// told is what a call answers; the parts that it doesn't have are zero.
type told struct {
	number   int
	products [][]int
	circuit  api.Circuit
	fault    api.Fault
}

func toldCircuit(c api.Circuit, f api.Fault) told { return told{circuit: c, fault: f} }

func toldNumber(n int, f api.Fault) told { return told{number: n, fault: f} }

// ofExpr makes all calls of an expression.
func ofExpr(e api.Expr, n, x int) []told {
	products, f := rev.Normal(e, n)
	return []told{
		{fault: rev.Check(e, n)}, toldNumber(rev.Value(e, n, x)), {products: products, fault: f},
		toldCircuit(rev.Flat(e, n)), toldCircuit(rev.Deep(e, n)),
	}
}

// faultsAlone: does a fault stand alone in each answer that has one?
func faultsAlone(t *testing.T, answers []told) {
	t.Helper()
	for _, a := range answers {
		if a.fault != none {
			equal(t, "with a fault", a, told{fault: a.fault})
		}
	}
}

// Each call is made twice, with the same arguments: it must end, must not
// panic, and must say the same; the arguments must be what they were.
func TestCallsOfExpressionsHangOnTheirArgumentsAlone(t *testing.T) {
	for _, s := range slices.Concat(pool()[:150], bigPool()[:60], badPool()) {
		for _, x := range []int{0, 1, -1, math.MinInt64, math.MaxInt64} {
			before := copyExpr(s.e)
			first, second := ofExpr(s.e, s.n, x), ofExpr(s.e, s.n, x)
			if !reflect.DeepEqual(first, second) {
				t.Errorf("two answers of %s", short(s))
			}
			if !reflect.DeepEqual(s.e, before) {
				t.Errorf("changed: %s, was %s", short(s.e), short(before))
			}
			faultsAlone(t, first)
		}
	}
}

// What stands below itself, or in more places than can be counted, is refused in no time.
func TestBoundlessExpressions(t *testing.T) {
	for _, e := range boundless() {
		for _, n := range []int{-1, 0, 2, 8, 9} {
			for _, answer := range ofExpr(e, n, 0) {
				equal(t, "boundless", answer, told{fault: fault(api.ErrLong, 0)})
			}
		}
	}
}

func TestCallsOfTablesAndCircuitsHangOnTheirArgumentsAlone(t *testing.T) {
	seed := noise(11)
	for i := range 300 {
		p := seed.order(1 << (i % 8))
		if i%3 == 0 {
			p[seed.below(len(p))] = seed.odd()
		}
		before := slices.Clone(p)
		first, second := toldCircuit(rev.Table(p)), toldCircuit(rev.Table(p))
		equal(t, "two answers of Table", first, second)
		equal(t, "handed to Table", p, before)
		faultsAlone(t, []told{first})

		c := seed.xs(1+i%7, i%20)
		if len(c.Ops) > 0 && i%3 == 0 {
			c.Ops[seed.below(len(c.Ops))].Kind = seed.odd()
		}
		kept := copyCircuit(c)
		in := seed.odd()
		equal(t, "two answers of Play", toldNumber(rev.Play(c, in)), toldNumber(rev.Play(c, in)))
		equal(t, "handed to Play", c, kept)
		faultsAlone(t, []told{toldNumber(rev.Play(c, in))})
	}
}

func TestZeroValues(t *testing.T) {
	for _, answer := range ofExpr(api.Expr{}, 0, 0) {
		equal(t, "no expression", answer, told{fault: fault(api.ErrKind, 0)})
	}
	equal(t, "no table", toldCircuit(rev.Table(nil)), told{fault: fault(api.ErrSize, 0)})
	equal(t, "no circuit", toldNumber(rev.Play(api.Circuit{}, 0)), told{fault: fault(api.ErrQubits, 0)})
	equal(t, "the least circuit", toldNumber(rev.Play(api.Circuit{Qubits: 1}, 1)), told{number: 1})
}

// emptied has empty lists in place of those that are nil.
func emptied(e api.Expr) api.Expr {
	e = copyExpr(e)
	if e.Args == nil {
		e.Args = make([]api.Expr, 0, 3)
	}
	for i, part := range e.Args {
		e.Args[i] = emptied(part)
	}
	return e
}

func TestListsMayBeNilOrEmpty(t *testing.T) {
	for _, s := range append(pool(), badPool()...) {
		equal(t, short(s), ofExpr(emptied(s.e), s.n, 1), ofExpr(s.e, s.n, 1))
	}
	bare := api.Circuit{Qubits: 2, Ops: []api.Op{{Kind: api.X}, {Kind: api.X, Q: 1}}}
	empty := copyCircuit(bare)
	for i := range empty.Ops {
		empty.Ops[i].Ctl, empty.Ops[i].If = []int{}, make([]int, 0, 4)
	}
	equal(t, "nil or empty", toldNumber(rev.Play(empty, 1)), toldNumber(rev.Play(bare, 1)))
	equal(t, "nil or empty", toldNumber(rev.Play(api.Circuit{Qubits: 1, Ops: []api.Op{}}, 1)), told{number: 1})
	equal(t, "nil or empty", toldCircuit(rev.Table([]int{})), toldCircuit(rev.Table(nil)))
}

// numbers are the lists of numbers of an answer, up to the end of their room.
func (a told) numbers() [][]int {
	var out [][]int
	for _, product := range a.products[:cap(a.products)] {
		out = append(out, product[:cap(product)])
	}
	for _, op := range a.circuit.Ops[:cap(a.circuit.Ops)] {
		out = append(out, op.Ctl[:cap(op.Ctl)], op.If[:cap(op.If)])
	}
	return out
}

// spoil writes into all that the lists of an answer can reach.
func (a told) spoil() {
	for _, list := range a.numbers() {
		for i := range list {
			list[i] = -77
		}
	}
	products, ops := a.products[:cap(a.products)], a.circuit.Ops[:cap(a.circuit.Ops)]
	for i := range products {
		products[i] = []int{-77}
	}
	for i := range ops {
		ops[i] = api.Op{Kind: -77}
	}
}

// holdNew holds an answer to sharing no memory within itself, nor with what is
// answered next.
func holdNew(t *testing.T, again func() []told) {
	t.Helper()
	want := again()
	for i, answer := range again() {
		seen := map[*int]bool{}
		for _, list := range answer.numbers() {
			for j := range list {
				if seen[&list[j]] {
					t.Fatalf("call %d: two lists share memory", i)
				}
				seen[&list[j]] = true
			}
		}
		answer.spoil()
		equal(t, "what is answered next", again(), want)
	}
}

func TestAnswersAreNewMemory(t *testing.T) {
	for _, s := range pool() {
		before := copyExpr(s.e)
		holdNew(t, func() []told { return ofExpr(s.e, s.n, 0) })
		equal(t, "what was handed in", s.e, before)
	}
	seed := noise(12)
	for i := range 40 {
		p := seed.order(2 << (i % 6))
		before := slices.Clone(p)
		holdNew(t, func() []told { return []told{toldCircuit(rev.Table(p))} })
		equal(t, "what was handed in", p, before)
	}
}

// Of what is handed in nothing is kept: writing into it later changes no answer.
func TestArgumentsAreNotKept(t *testing.T) {
	for _, s := range pool() {
		mine := copyExpr(s.e)
		got := ofExpr(mine, s.n, 0)
		for i := range mine.Args {
			mine.Args[i] = api.Expr{Kind: -77}
		}
		equal(t, "kept", got, ofExpr(s.e, s.n, 0))
	}
	p := []int{2, 0, 3, 1}
	got := table(t, p...)
	clear(p)
	equal(t, "kept", got, table(t, 2, 0, 3, 1))
}

// roomy has room behind each list, in which a fault stands.
func roomy(e api.Expr) api.Expr {
	below := make([]api.Expr, 0, len(e.Args)+2)
	for _, part := range e.Args {
		below = append(below, roomy(part))
	}
	e.Args = append(below, api.Expr{Kind: 88}, api.Expr{Kind: 88})[:len(e.Args)]
	return e
}

// isLeft: does what roomy put behind the lists still stand there?
func isLeft(e api.Expr) bool {
	room := e.Args[:cap(e.Args)][len(e.Args):]
	return len(room) > 1 && room[0].Kind == 88 && room[1].Kind == 88 && !slices.ContainsFunc(e.Args, func(part api.Expr) bool { return !isLeft(part) })
}

// Behind the end of a list that is handed in there may be room: it is neither read nor written into.
func TestRoomBehindListsIsLeftAlone(t *testing.T) {
	for _, s := range pool() {
		e := roomy(s.e)
		equal(t, short(s), ofExpr(e, s.n, 0), ofExpr(s.e, s.n, 0))
		if !isLeft(e) {
			t.Errorf("written behind a list of %s", short(s))
		}
	}
	p := []int{2, 0, 3, 1, 88, 88}
	equal(t, "Table", table(t, p[:4]...), table(t, 2, 0, 3, 1))
	equal(t, "behind the list", p, []int{2, 0, 3, 1, 88, 88})
	c := circuit(t, "qubits 3 bits 0", "x 0 on 1 2", "x 1")
	c.Ops = append(c.Ops, api.Op{Kind: 88})
	c.Ops[0].Ctl = append(c.Ops[0].Ctl, 88)
	before := copyCircuit(c)
	short := api.Circuit{Qubits: 3, Ops: c.Ops[:2]}
	short.Ops[0].Ctl = short.Ops[0].Ctl[:2]
	equal(t, "Play", play(t, short, 6), 5)
	equal(t, "behind the list", []any{c.Ops[2], c.Ops[0].Ctl[:3]}, []any{before.Ops[2], before.Ops[0].Ctl})
}
