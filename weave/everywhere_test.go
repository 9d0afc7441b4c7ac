package weave_test

import (
	"math"
	"reflect"
	"slices"
	"strings"
	"testing"
	"unsafe"

	"qloom/api"
	"qloom/circ"
	"qloom/weave"
)

// everything is a program with each kind of item, statement, number and truth.
const everything = `
qubit q[2 * 4 - 2]; bit b[size(q)]; const k = -3 ** 2 + (4 - 1) / 5 % 6; const c = k == 1;
gate one a { h a; } gate two(m, n) a, b[], c { t a; p(m + n) b[0]; inv @ one c; within { y a; } apply { ctrl @ phase(m) c; } pow(2) @ swap a, c; a ^= !b[0] & c | 1; }
for i in 0 .. size(q) { when i % 2 == 0 { h q[i]; } }
measure q[0 .. 2] -> b[1 .. 3];
if b[0] { x q[0]; } if !b[1] { y q[0]; } else { phase(3); if b[2] { reset q[0]; measure q[1] -> b[3]; } }
ctrl @ inv @ two(k, 2) q[5], q[0], q[1 .. 3], q[3];
q[0] ^= !(q[1] | q[2] & 1) ^ q[3] & (0 ^ q[4]); reset q[1 .. 3];
within { h q[0]; s q[1]; ctrl @ ctrl @ x q[0], q[1], q[2]; } apply { measure q -> b; }
gate turns a { phase(1); h a; phase(2); } ctrl @ ctrl @ ctrl @ turns q[5], q[0], q[1], q[3]; pow(-2) @ ctrl @ ctrl @ ctrl @ turns q[5], q[0], q[1], q[3];
if b[1] { within { h q[0]; ctrl @ s q[0], q[1]; } apply { if !b[2] { inv @ turns q[0]; } } }
`

// kinds is one more than the greatest kind of a node.
const kinds = api.NXor + 1

// answered makes a call, and holds what it answers to what holds of all answers.
func answered(t *testing.T, n api.Node) (api.Circuit, api.Fault) {
	t.Helper()
	c, f := weave.Expand(n)
	if f != none && (c.Qubits != 0 || c.Bits != 0 || len(c.Ops) > 0) {
		t.Errorf("more than the fault %v: %s", f, short(c))
	}
	if g := circ.Check(c); f == none && g != none {
		t.Errorf("a circuit with the fault %v: %s", g, short(c))
	}
	return c, f
}

// Each call is made twice, with the same arguments: it must end, must not panic,
// and must say the same; the arguments must be what they were.
func TestCallsHangOnTheirArgumentsAlone(t *testing.T) {
	for i := range 400 {
		a := author{noise: noise(i), mischief: i % 20}
		tree := parsed(t, a.program(5+i%40))
		if i%3 == 0 {
			tree = a.spoilt(tree)
		}
		before := copyOf(tree)
		c, f := answered(t, tree)
		other, g := answered(t, tree)
		if !reflect.DeepEqual(c, other) || f != g {
			t.Errorf("two answers: %s, %v and %s, %v", short(c), f, short(other), g)
		}
		if !reflect.DeepEqual(tree, before) {
			t.Errorf("changed: %s, was %s", short(tree), short(before))
		}
	}
}

// spoilt is a tree with an odd thing somewhere in it.
func (a *author) spoilt(n api.Node) api.Node {
	n.Kids = slices.Clone(n.Kids)
	if len(n.Kids) > 0 && a.below(6) > 0 {
		i := a.below(len(n.Kids))
		n.Kids[i] = a.spoilt(n.Kids[i])
		return n
	}
	switch a.below(6) {
	case 0:
		n.Kind = a.below(kinds+4) - 2
	case 1:
		n.N = []int{-1, 0, 1, 2, 3, math.MinInt64, math.MinInt64 + 1, math.MaxInt64}[a.below(8)]
	case 2:
		n.Kids = n.Kids[:len(n.Kids)/2]
	case 3:
		n.Kids = append(n.Kids, api.Node{Kind: a.below(kinds)})
	case 4:
		n.Name = a.pick("", "if", "x", "q1", "\x00\xff", "//", "+", "**", "==", "/")
	case 5:
		n.At = []int{-1, math.MinInt64, math.MaxInt64}[a.below(3)]
	}
	return n
}

func TestSpoiltTrees(t *testing.T) {
	t.Parallel()
	a := author{noise: 5}
	whole := parsed(t, everything)
	for i := range 20000 {
		tree := whole
		if i%4 == 0 {
			tree = parsed(t, a.program(5+i%40))
		}
		for range 1 + a.below(4) {
			tree = a.spoilt(tree)
		}
		answered(t, tree)
	}
}

func TestZeroValues(t *testing.T) {
	_, f := answered(t, api.Node{})
	equal(t, "a zero node", f, fault(api.ErrQubits, 0))
	_, f = answered(t, api.Node{Kind: api.NProgram, Kids: make([]api.Node, 3)})
	equal(t, "zero nodes are refused", f.Code != 0, true)
}

// Nodes of all kinds and of none, with as many below them as may be or others.
func TestOddTrees(t *testing.T) {
	t.Parallel()
	head := parsed(t, "qubit q[2]; bit b[2]; const k = 1; gate g(n) a, c[] { h a; }").Kids
	odd := []int{math.MinInt64, -1, 1000, math.MaxInt64}
	for kind := range kinds + 2 {
		odd = append(odd, kind)
	}
	below := []api.Node{
		{}, {Kind: api.NName, Name: "k"}, {Kind: api.NNum, N: math.MaxInt64}, {Kind: api.NNum, N: math.MinInt64}, {Kind: api.NNum, N: 1}, {Kind: api.NBlock}, {Kind: api.NGroup, Kids: make([]api.Node, 2)}, {Kind: -5, Kids: make([]api.Node, 2)},
		{Kind: api.NRef, Name: "q", Kids: []api.Node{{Kind: api.NNum}}}, {Kind: api.NRef, Name: "q", N: 7, Kids: []api.Node{{Kind: api.NNum}, {Kind: api.NNum, N: 1}, {}}}, {Kind: api.NRef, Name: "b"}, {Kind: api.NSize, Name: "q"},
	}
	for _, kind := range odd {
		for _, name := range []string{"", "q", "b", "k", "g", "x", "+", "**", "nobody"} {
			for _, n := range []int{0, 1, 2, -1, math.MinInt64, math.MaxInt64} {
				for count := range 4 {
					for _, kid := range below {
						node := api.Node{Kind: kind, At: -1, Name: name, N: n, Kids: slices.Repeat([]api.Node{kid}, count)}
						answered(t, api.Node{Kind: api.NProgram, Kids: append(slices.Clip(head), node)})
					}
				}
			}
		}
	}
	for _, kind := range odd {
		for _, above := range odd {
			for _, kid := range below {
				node := api.Node{Kind: above, Name: "g", Kids: slices.Repeat([]api.Node{{Kind: kind, Name: "q", Kids: []api.Node{kid, kid, kid}}}, 3)}
				answered(t, api.Node{Kids: append(slices.Clip(head), node)})
			}
		}
	}
}

// Numbers that no text has are reckoned with no further than others.
func TestGreatNumbersInTrees(t *testing.T) {
	for _, great := range []int{math.MinInt64, math.MinInt64 + 1, -1 << 62, -api.MaxWhole - 1, api.MaxWhole + 1, 1 << 32, 1 << 62, math.MaxInt64} {
		number := api.Node{Kind: api.NNum, N: great}
		for _, sign := range []string{"+", "-", "*", "/", "%", "**", "==", "<"} {
			for _, small := range []int{-2, -1, 0, 1, 2, great} {
				other := api.Node{Kind: api.NNum, N: small}
				for _, kids := range [][]api.Node{{number, other}, {other, number}} {
					sum := api.Node{Kind: api.NBin, Name: sign, Kids: kids}
					for _, item := range []api.Node{{Kind: api.NQubit, Name: "q", Kids: []api.Node{sum}}, {Kind: api.NBit, Name: "b", Kids: []api.Node{sum}}, {Kind: api.NFor, Kids: []api.Node{sum, number, {}}}, {Kind: api.NFor, Kids: []api.Node{other, sum, {}}}} {
						answered(t, api.Node{Kids: []api.Node{item}})
					}
				}
			}
		}
		qubits := api.Node{Kind: api.NQubit, Name: "q", Kids: []api.Node{number}}
		_, f := answered(t, api.Node{Kids: []api.Node{qubits}})
		equal(t, "so many qubits", f.Code != 0, true)
	}
}

// deep is a node with as many of one kind above it.
func deep(kind, place, times int, n api.Node) api.Node {
	for range times {
		below := make([]api.Node, place+1)
		below[place] = n
		n = api.Node{Kind: kind, Name: "a", Kids: below}
	}
	return n
}

// Trees as deep as parts may stand in one another.
func TestDeepTrees(t *testing.T) {
	t.Parallel()
	const most = 1 << 16
	number := api.Node{Kind: api.NNum, N: 1}
	for kind := range kinds + 1 {
		for _, place := range []int{0, 1, 2} {
			n := deep(kind, place, most, number)
			answered(t, n)
			answered(t, api.Node{Kind: api.NProgram, Kids: []api.Node{n}})
			for _, item := range []int{api.NConst, api.NWhen, api.NReset, api.NIf, api.NFlip, api.NApply} {
				answered(t, api.Node{Kind: api.NProgram, Kids: []api.Node{{Kind: item, Name: "x", Kids: []api.Node{n, n, n}}}})
			}
		}
	}
	// Each such number is one as any other.
	c, f := answered(t, api.Node{Kids: []api.Node{{Kind: api.NQubit, Name: "q", Kids: []api.Node{deep(api.NNeg, 0, most, number)}}}})
	equal(t, "a sign so often", f, none)
	equal(t, "a sign so often", c.Qubits, 1)
	sum := number
	for range most {
		sum = api.Node{Kind: api.NBin, Name: "*", Kids: []api.Node{sum, number}}
	}
	c, f = answered(t, api.Node{Kids: []api.Node{{Kind: api.NQubit, Name: "q", Kids: []api.Node{sum}}}})
	equal(t, "a product so often", f, none)
	equal(t, "a product so often", c.Qubits, 1)
	// Statements within one another take their steps.
	block := api.Node{Kind: api.NBlock}
	for at := range most {
		block = api.Node{Kind: api.NBlock, Kids: []api.Node{{Kind: api.NWhen, At: most - at, Kids: []api.Node{number, block}}}}
	}
	_, f = answered(t, api.Node{Kind: api.NProgram, Kids: block.Kids})
	equal(t, "whens within one another", f, fault(api.ErrSteps, api.MaxSteps+1))
}

// The deepest texts.
func TestDeepTexts(t *testing.T) {
	does(t, "qubit q[1]; p("+strings.Repeat("-", 30000)+"3) q[0];", "qubits 1 bits 0", "p 3 0")
	does(t, "qubit q[1]; p("+strings.Repeat("(", 15000)+"3"+strings.Repeat(")", 15000)+") q[0];", "qubits 1 bits 0", "p 3 0")
	does(t, "qubit q[1]; p(1"+strings.Repeat("+1", 16000)+") q[0];", "qubits 1 bits 0", "p 1 0")
	does(t, "qubit q[1]; p(1"+strings.Repeat("**1", 12000)+") q[0];", "qubits 1 bits 0", "p 1 0")
	does(t, "qubit q[1]; "+strings.Repeat("when 1{", 1490)+"x q[0];"+strings.Repeat("}", 1490), "qubits 1 bits 0", "x 0")
	refused(t, "qubit q[1]; "+strings.Repeat("when 1{", 1500)+"$x q[0];"+strings.Repeat("}", 1500), api.ErrSteps)
	does(t, "qubit q[1]; "+strings.Repeat("inv@", 9001)+"t q[0];", "qubits 1 bits 0", "p 14 0")
	does(t, "qubit q[1]; "+strings.Repeat("pow(-1)@", 4001)+"t q[0];", "qubits 1 bits 0", "p 14 0")
	refused(t, "qubit q[1]; $"+strings.Repeat("ctrl@", 7000)+"t q[0];", api.ErrArgs)
}

// A text's greatest number, reckoned anew in each round, is no hindrance.
func TestLongNumbersOften(t *testing.T) {
	t.Parallel()
	does(t, "qubit q[1]; for i in 0 .. 745 { when 0"+strings.Repeat("+i-i", 9000)+" { nobody; } } x q[0];", "qubits 1 bits 0", "x 0")
	woven(t, "qubit q[4]; for i in 0 .. 745 { q[3] ^= 0 & ("+long(197)[0]+"); }")
}

// What stands below itself, or has more nodes than can be counted, ends in no time.
func TestBoundlessTrees(t *testing.T) {
	t.Parallel()
	for kind := range kinds + 1 {
		endless := make([]api.Node, 3)
		for i := range endless {
			endless[i] = api.Node{Kind: kind, Name: "a", Kids: endless}
		}
		answered(t, endless[0])
		for place := range 3 {
			one := make([]api.Node, 3)
			one[place] = api.Node{Kind: kind, Name: "+", Kids: one}
			answered(t, one[place])
			answered(t, api.Node{Kind: api.NProgram, Kids: []api.Node{{Kind: api.NConst, Name: "k", Kids: []api.Node{one[place]}}}})
		}
		doubling := api.Node{Kind: kind}
		for range 200 {
			doubling = api.Node{Kind: kind, Name: "+", Kids: []api.Node{doubling, doubling, doubling}}
		}
		answered(t, doubling)
		answered(t, api.Node{Kids: []api.Node{{Kind: api.NWhen, Kids: []api.Node{doubling, doubling}}}})
		wide := make([]api.Node, 1<<18)
		for i := range wide {
			wide[i] = api.Node{Kind: kind, Kids: wide}
		}
		answered(t, wide[0])
	}
}

// lists visits all lists of a circuit, up to the end of their room.
func lists(c api.Circuit, visit func([]int)) {
	for _, op := range c.Ops {
		visit(op.Ctl[:cap(op.Ctl)])
		visit(op.If[:cap(op.If)])
	}
}

func TestAnswersAreNewMemory(t *testing.T) {
	tree := parsed(t, everything)
	before := copyOf(tree)
	first, f := weave.Expand(tree)
	equal(t, "everything", f, none)
	second, _ := weave.Expand(tree)
	seen := map[*int]bool{}
	for _, c := range []api.Circuit{first, second} {
		lists(c, func(list []int) {
			for i := range list {
				if seen[&list[i]] {
					t.Fatal("two lists share memory")
				}
				seen[&list[i]] = true
			}
		})
	}
	want, _ := weave.Expand(copyOf(tree))
	lists(first, func(list []int) {
		for i := range list {
			list[i] = -77
		}
	})
	for i := range first.Ops[:cap(first.Ops)] {
		first.Ops[:cap(first.Ops)][i] = api.Op{Kind: -77}
	}
	equal(t, "another answer", second, want)
	third, _ := weave.Expand(tree)
	equal(t, "what is answered next", third, want)
	if !reflect.DeepEqual(tree, before) {
		t.Error("what was handed in has changed")
	}
}

// Of what is handed in nothing is kept: writing into it later changes no answer.
func TestArgumentsAreNotKept(t *testing.T) {
	tree := parsed(t, everything)
	got, _ := weave.Expand(tree)
	want, _ := weave.Expand(parsed(t, everything))
	var spoil func(n *api.Node)
	spoil = func(n *api.Node) {
		for i := range n.Kids {
			spoil(&n.Kids[i])
		}
		*n = api.Node{Kind: -77}
	}
	spoil(&tree)
	equal(t, "kept", got, want)
	name := []byte("q")
	text := unsafe.String(&name[0], len(name))
	one := api.Node{Kind: api.NNum, N: 1}
	program := api.Node{Kids: []api.Node{{Kind: api.NQubit, Name: text, Kids: []api.Node{one}}}}
	c, f := weave.Expand(program)
	clear(name)
	equal(t, "kept", f, none)
	equal(t, "kept", c, api.Circuit{Qubits: 1})
}

// emptied has empty lists in place of those that are nil, and room behind all.
func emptied(n api.Node) api.Node {
	kids := make([]api.Node, 0, len(n.Kids)+2)
	for _, kid := range n.Kids {
		kids = append(kids, emptied(kid))
	}
	n.Kids = append(kids, api.Node{Kind: api.NName, Name: "behind"}, api.Node{Kind: api.NBlock})[:len(n.Kids)]
	return n
}

// Lists may be nil or empty; behind their ends there may be room, which is neither read nor written into.
func TestListsMayBeNilOrEmpty(t *testing.T) {
	var check func(n api.Node)
	check = func(n api.Node) {
		room := n.Kids[len(n.Kids) : len(n.Kids)+2]
		if room[0].Name != "behind" || room[1].Kind != api.NBlock {
			t.Error("written behind a list")
		}
		for _, kid := range n.Kids {
			check(kid)
		}
	}
	for i := range 300 {
		a := author{noise: noise(600 + i), mischief: i % 10}
		tree := parsed(t, a.program(5+i%40))
		other := emptied(tree)
		c, f := answered(t, tree)
		d, g := answered(t, other)
		equal(t, "nil or empty", d, c)
		equal(t, "nil or empty", g, f)
		check(other)
	}
}
