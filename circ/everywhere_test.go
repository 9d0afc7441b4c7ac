package circ_test

import (
	"math"
	"reflect"
	"strings"
	"testing"

	"qloom/api"
	"qloom/circ"
)

// told is what a call answers; the parts that it doesn't have are zero.
type told struct {
	circuit api.Circuit
	text    string
	tally   api.Tally
	fault   api.Fault
}

func toldCircuit(c api.Circuit, f api.Fault) told { return told{circuit: c, fault: f} }

// eachAnswer makes all calls that take a circuit, with all kinds of other arguments.
func eachAnswer(c api.Circuit) []told {
	s, printFault := circ.Print(c)
	tally, countFault := circ.Count(c)
	out := []told{
		{fault: circ.Check(c)}, {fault: circ.Pure(c)}, {text: s, fault: printFault}, {tally: tally, fault: countFault},
		toldCircuit(circ.Parse(s)), toldCircuit(circ.Inverse(c)), toldCircuit(circ.Then(c, c)), toldCircuit(circ.Then(c, api.Circuit{})),
	}
	for _, n := range []int{math.MinInt64, -3, -1, 0, 1, 2, 5, 12, 4096, math.MaxInt64} {
		out = append(out, toldCircuit(circ.Control(c, n)), toldCircuit(circ.Power(c, n)))
		for _, to := range [][]int{nil, {n}, {11, 10, 9, 8, 7, 6, 5, 4, 3, 2, 1, 0}, descending(c.Qubits)} {
			out = append(out, toldCircuit(circ.Move(c, to, n)))
		}
	}
	return out
}

// descending is n - 1 to 0, for an n that may be any.
func descending(n int) []int {
	var out []int
	for i := range min(n, 20) {
		out = append(out, n-1-i)
	}
	return out
}

// Each call is made twice, with the same arguments: it must end, must not
// panic, and must say the same; the arguments must be what they were.
func TestCallsHangOnTheirArgumentsAlone(t *testing.T) {
	for _, c := range append(pool(), badPool()[:800]...) {
		before := copyOf(c)
		first, second := eachAnswer(c), eachAnswer(c)
		if !reflect.DeepEqual(first, second) {
			t.Errorf("two answers of %s", short(c))
		}
		if !reflect.DeepEqual(c, before) {
			t.Errorf("changed: %s, was %s", short(c), short(before))
		}
		for _, answer := range first {
			if answer.fault != none && !reflect.DeepEqual(answer, told{fault: answer.fault}) {
				t.Errorf("more than a fault: %s", short(answer))
			}
		}
	}
}

// Circuits that are made of others have no fault.
func TestWhatIsAnsweredIsACircuit(t *testing.T) {
	for _, c := range pool() {
		for _, answer := range eachAnswer(c) {
			if answer.circuit.Qubits != 0 {
				equal(t, "Check", circ.Check(answer.circuit), none)
			}
		}
	}
}

func TestListsMayBeNilOrEmpty(t *testing.T) {
	bare := api.Circuit{Qubits: 2, Bits: 1, Ops: []api.Op{{Kind: api.X}, {Kind: api.Phase, K: 3}, {Kind: api.P, K: 5, Q: 1}}}
	empty := copyOf(bare)
	for i := range empty.Ops {
		empty.Ops[i].Ctl, empty.Ops[i].If = []int{}, make([]int, 0, 5)
	}
	for _, pair := range [][2]api.Circuit{{bare, empty}, {{Qubits: 2}, {Qubits: 2, Ops: []api.Op{}}}, {{}, {Ops: make([]api.Op, 0, 3)}}} {
		other := eachAnswer(pair[1])
		for i, answer := range eachAnswer(pair[0]) {
			same(t, "nil or empty", answer.circuit, other[i].circuit)
			equal(t, "nil or empty", answer.text, other[i].text)
			equal(t, "nil or empty", answer.tally, other[i].tally)
			equal(t, "nil or empty", answer.fault, other[i].fault)
		}
	}
	nilTo, f := circ.Move(bare, nil, 2)
	emptyTo, g := circ.Move(bare, []int{}, 2)
	equal(t, "no map", f, g)
	same(t, "no map", nilTo, emptyTo)
}

func TestNoTextIsTooStrange(t *testing.T) {
	header := "qubits 1 bits 1\n"
	texts := []string{"", "\x00", "\xff\xfe", nTimes("\n", 100000), nTimes(" ", 100000), nTimes("x", 100000), nTimes("0", 100000), nTimes(header, 50000)}
	for _, piece := range []string{"\n", " ", "x 0 on", "x 0 if ", "!", "0", "9", " 0", "x 0\n", "x 0 on 1\n", "measure ", "\x00", "é"} {
		texts = append(texts, header+nTimes(piece, 30000), header+"x 0 on 0"+nTimes(piece, 30000)+"\n", header+"x 0 if 0"+nTimes(piece, 30000)+"\n")
	}
	for b := range 256 {
		s := string([]byte{byte(b)})
		texts = append(texts, s, header+s, header+s+"\n", header+"x 0"+s, header+"x 0"+s+"\n", header+"x 0 on 1 "+s+"\n", header+"x 0 if "+s+"\n", header[:7]+s)
	}
	for _, s := range texts {
		a, f := circ.Parse(s)
		b, g := circ.Parse(s)
		equal(t, s, f, g)
		if !reflect.DeepEqual(a, b) {
			t.Errorf("two answers of %s", short(s))
		}
		compareParse(t, s)
	}
}

// memory is the places of all that a circuit's lists can reach.
func memory(c api.Circuit) (ops []*api.Op, numbers []*int) {
	all := c.Ops[:cap(c.Ops)]
	for i := range all {
		ops = append(ops, &all[i])
		for _, list := range [][]int{all[i].Ctl, all[i].If} {
			list = list[:cap(list)]
			for j := range list {
				numbers = append(numbers, &list[j])
			}
		}
	}
	return ops, numbers
}

// allApart: does no place come twice in the circuit's lists?
func allApart(t *testing.T, what string, c api.Circuit) {
	t.Helper()
	seen := map[*int]bool{}
	_, numbers := memory(c)
	for _, place := range numbers {
		if seen[place] {
			t.Fatalf("%s: two lists share memory", what)
		}
		seen[place] = true
	}
}

// answersOf makes the calls that answer circuits.
func answersOf(t *testing.T, c, pure api.Circuit) map[string]api.Circuit {
	t.Helper()
	out := map[string]api.Circuit{}
	keep := func(name string) func(api.Circuit, api.Fault) {
		return func(answer api.Circuit, f api.Fault) {
			equal(t, name, f, none)
			out[name] = answer
		}
	}
	to := make([]int, c.Qubits)
	for i := range to {
		to[i] = api.MaxQubits - 1 - i
	}
	keep("Parse")(circ.Parse(printed(t, c)))
	keep("Inverse")(circ.Inverse(pure))
	keep("Control")(circ.Control(pure, pure.Qubits-1))
	keep("Power 1")(circ.Power(pure, 1))
	keep("Power 3")(circ.Power(pure, 3))
	keep("Power -3")(circ.Power(pure, -3))
	keep("Then")(circ.Then(c, c))
	keep("Move")(circ.Move(c, to, api.MaxQubits))
	return out
}

// spoilAll writes into all that the circuit's lists can reach.
func spoilAll(c api.Circuit) {
	ops, numbers := memory(c)
	for _, place := range numbers {
		*place = -77
	}
	for _, place := range ops {
		*place = api.Op{Kind: -77}
	}
}

func TestAnswersAreNewMemory(t *testing.T) {
	c := circuit(t, "qubits 4 bits 2", "h 0 on 1 2", "x 1 on 0 if 0 !1", "phase 3 if 1", "measure 2 to 1 if !0", "p 3 2 on 0 1", "reset 0", "x 0")
	pure := circuit(t, "qubits 4 bits 2", "h 0 on 1 2", "phase 3", "x 1 on 0", "p 3 2 on 0 1", "x 0")
	// Lists of one circuit that share memory with each other must not do so in an answer.
	shared := []int{1, 2}
	pure.Ops = append(pure.Ops, api.Op{Kind: api.X, Ctl: shared}, api.Op{Kind: api.H, Ctl: shared})
	c.Ops = append(c.Ops, api.Op{Kind: api.X, Ctl: shared, If: shared}, api.Op{Kind: api.H, Ctl: shared[:1], If: shared})
	beforeC, beforePure := copyOf(c), copyOf(pure)
	for name, answer := range answersOf(t, c, pure) {
		if len(answer.Ops) == 0 {
			t.Errorf("%s: nothing is answered", name)
		}
		allApart(t, name, answer)
		want := copyOf(answer)
		spoilAll(answer)
		same(t, name+": what was handed in", c, beforeC)
		same(t, name+": what was handed in", pure, beforePure)
		same(t, name+": what is answered next", answersOf(t, c, pure)[name], want)
	}
}

// Of what is handed in nothing is kept: writing into it later changes no answer.
func TestArgumentsAreNotKept(t *testing.T) {
	c := circuit(t, "qubits 4 bits 2", "h 0 on 1 2", "x 1 on 0 if 0 !1", "measure 2 to 1 if !0")
	pure := circuit(t, "qubits 4 bits 2", "h 0 on 1 2", "p 3 2 on 0 1")
	answers := answersOf(t, c, pure)
	before := map[string]api.Circuit{}
	for name, answer := range answers {
		before[name] = copyOf(answer)
	}
	spoilAll(c)
	spoilAll(pure)
	for name, answer := range answers {
		same(t, name, answer, before[name])
	}
}

// The document's examples.
func TestExamples(t *testing.T) {
	c := circuit(t, "qubits 2 bits 1", "h 0", "x 1 on 0", "measure 1 to 0 if !0")
	tally, f := circ.Count(c)
	equal(t, "Count", f, none)
	equal(t, "Count", tally, api.Tally{Ops: 3, Fork: 1, Wide: 1, Meets: 1, Levels: 3})
	equal(t, "Pure", circ.Pure(c), fault(api.ErrUnitary, 2))
	undone, _ := circ.Inverse(circuit(t, "qubits 2 bits 0", "p 3 1 on 0"))
	equal(t, "undone", printed(t, undone), text("qubits 2 bits 0", "p 13 1 on 0"))
	controlled, _ := circ.Control(circuit(t, "qubits 2 bits 0", "phase 5"), 1)
	equal(t, "controlled", printed(t, controlled), text("qubits 2 bits 0", "p 5 1"))
	_, f = circ.Parse(strings.TrimSuffix(text("qubits 1 bits 0", "h 0"), "\n"))
	equal(t, "no end", f, fault(api.ErrText, 1))
}

// roomy is the list with room behind it, in which sentinels stand.
func roomy(list []int) []int {
	return append(append([]int(nil), list...), 88, 88, 88, 88)[:len(list)]
}

// Behind the end of a list that is handed in there may be room: it is not written into.
func TestRoomBehindListsIsLeftAlone(t *testing.T) {
	for _, c := range pool() {
		c = copyOf(c)
		for i, op := range c.Ops {
			c.Ops[i].Ctl, c.Ops[i].If = roomy(op.Ctl), roomy(op.If)
		}
		c.Ops = append(c.Ops, api.Op{Kind: 88}, api.Op{Kind: 88})[:len(c.Ops)]
		to := roomy(descending(c.Qubits))
		eachAnswer(c)
		circ.Move(c, to, c.Qubits)
		for _, op := range c.Ops {
			for _, list := range [][]int{op.Ctl, op.If} {
				equal(t, "behind a list", list[:len(list)+4][len(list)], 88)
			}
		}
		equal(t, "behind the operations", c.Ops[:len(c.Ops)+1][len(c.Ops)].Kind, 88)
		equal(t, "behind the map", to[:len(to)+4][len(to)], 88)
	}
}
