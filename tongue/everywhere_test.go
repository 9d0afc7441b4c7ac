package tongue_test

import (
	"math"
	"reflect"
	"slices"
	"strings"
	"testing"
	"unsafe"

	"qloom/api"
	"qloom/tongue"
)

// Each call is made twice, with the same arguments: it must end, must not panic,
// and must say the same; the arguments must be what they were.
func TestCallsHangOnTheirArgumentsAlone(t *testing.T) {
	s := scribe{noise: 4}
	for i := range 300 {
		text, tree := s.program(i % 90)
		if i%2 == 0 {
			at := s.below(len(text) + 1)
			text = text[:at] + s.pick("}", "$", "(", "a", "00", "") + text[at:]
		}
		if i%3 == 0 {
			tree = s.spoilt(tree)
		}
		first, f := tongue.Parse(text)
		second, g := tongue.Parse(text)
		equal(t, text, f, g)
		if !reflect.DeepEqual(first, second) {
			t.Errorf("two answers of %s", short(text))
		}
		before := copyOf(tree)
		equal(t, "two answers of Print", tongue.Print(tree), tongue.Print(tree))
		if !reflect.DeepEqual(tree, before) {
			t.Errorf("changed: %s, was %s", short(told(tree)), short(told(before)))
		}
	}
}

// spoilt is a tree with an odd thing somewhere in it.
func (s *scribe) spoilt(n api.Node) api.Node {
	n.Kids = slices.Clone(n.Kids)
	if len(n.Kids) > 0 && s.below(5) > 0 {
		i := s.below(len(n.Kids))
		n.Kids[i] = s.spoilt(n.Kids[i])
		return n
	}
	switch s.below(5) {
	case 0:
		n.Kind = s.below(len(kinds)+4) - 2
	case 1:
		n.N = []int{-1, 1, 2, math.MinInt64, math.MaxInt64}[s.below(5)]
	case 2:
		n.Kids = n.Kids[:len(n.Kids)/2]
	case 3:
		n.Kids = append(n.Kids, api.Node{Kind: s.below(len(kinds))})
	case 4:
		n.Name = s.pick("", "if", "a b", "\x00\xff", "//", "\n")
	}
	return n
}

// Trees that no text gives: any text will do, but there must be one.
func TestPrintOfOddTrees(t *testing.T) {
	tongue.Print(api.Node{})
	odd := []int{math.MinInt64, -1, 0, 31, 32, 1000, math.MaxInt64}
	for kind := range kinds {
		odd = append(odd, kind)
	}
	leaf := []api.Node{{}, {Kind: api.NName, Name: "a"}, {Kind: api.NBlock}, {Kind: api.NGroup}, {Kind: -5, Kids: make([]api.Node, 2)}}
	for _, kind := range odd {
		for _, n := range []int{0, 1, 2, 3, -1, math.MinInt64, math.MaxInt64} {
			for count := range 6 {
				for _, below := range leaf {
					node := api.Node{Kind: kind, At: -1, Name: "a", N: n, Kids: slices.Repeat([]api.Node{below}, count)}
					for _, above := range []int{api.NProgram, api.NBlock, api.NGate, api.NApply, api.NNeg, api.NBin, api.NNot, api.NOr, api.NFor, api.NIf, api.NRef, kind} {
						tongue.Print(api.Node{Kind: above, Kids: []api.Node{node}})
						tongue.Print(api.Node{Kind: above, Kids: []api.Node{{}, node, node, node}})
					}
					tongue.Print(node)
				}
			}
		}
	}
	s := scribe{noise: 5}
	for i := range 3000 {
		_, tree := s.program(i % 60)
		for range 1 + s.below(4) {
			tree = s.spoilt(tree)
		}
		if text := tongue.Print(tree); text != "" {
			tongue.Parse(text)
		}
	}
}

// Trees as deep as parts may stand in one another.
func TestPrintOfDeepTrees(t *testing.T) {
	for kind := range len(kinds) + 2 {
		for _, place := range []int{0, 1, 2} {
			n := api.Node{Kind: api.NNum}
			for range 1 << 16 {
				below := make([]api.Node, place+1)
				below[place] = n
				n = api.Node{Kind: kind, Kids: below}
			}
			if len(tongue.Print(n)) > math.MaxInt32 {
				t.Errorf("too long an answer of kind %d", kind)
			}
		}
	}
	mixed := api.Node{}
	for i := range 1 << 16 {
		mixed = api.Node{Kind: i % len(kinds), Kids: []api.Node{mixed}}
	}
	tongue.Print(mixed)
	signs := api.Node{Kind: api.NNum, N: 1}
	for range 1 << 16 {
		signs = api.Node{Kind: api.NNeg, Kids: []api.Node{signs}}
	}
	tongue.Print(signs)
}

// What stands below itself, or has more nodes than can be counted, ends in no time.
func TestPrintOfBoundlessTrees(t *testing.T) {
	for kind := range len(kinds) + 2 {
		endless := make([]api.Node, 3)
		for i := range endless {
			endless[i] = api.Node{Kind: kind, Name: "a", Kids: endless}
		}
		tongue.Print(endless[0])
		deep := make([]api.Node, 3)
		deep[0] = api.Node{Kind: kind, Kids: deep}
		tongue.Print(deep[0])
		deep[0], deep[2] = api.Node{}, api.Node{Kind: kind, Kids: deep}
		tongue.Print(deep[2])
		doubling := api.Node{Kind: kind}
		for range 200 {
			doubling = api.Node{Kind: kind, Kids: []api.Node{doubling, doubling, doubling}}
		}
		tongue.Print(doubling)
		wide := make([]api.Node, 1<<18)
		for i := range wide {
			wide[i] = api.Node{Kind: kind, Kids: wide}
		}
		tongue.Print(wide[0])
	}
	long := api.Node{Kind: api.NApply, Name: strings.Repeat("a", 1<<20)}
	tongue.Print(api.Node{Kind: api.NProgram, Kids: slices.Repeat([]api.Node{long}, 1<<16)})
}

func TestNoTextIsTooStrange(t *testing.T) {
	var texts []string
	for _, ahead := range []string{"", "x;", "x ", "x(", "const k=", "const k=1", "a^=", "a^=b", "a[", "if a{", "gate g(", "gate g a", "for i in 0", "within{", "inv@", "//"} {
		for _, piece := range []string{"\n", " ", "//", "//\n", "x", "0", "9", ";", "x;", "(", ")", "[", "{", "}", "-", "!", "**", "*", "..", ".", "@", "inv@", "pow(1)@", "if a{", "if a{}", "else{", "within{", "}apply{", "a^=", "a[", ",a", "+1", "&b", "|(", "^", "==", "\x00", "\xff", "é", "gate g a{", "for i in ", "size(", "qubit "} {
			texts = append(texts, ahead+strings.Repeat(piece, 3000), ahead+strings.Repeat(piece, (api.MaxLines-len(ahead))/len(piece)), ahead+strings.Repeat(piece, api.MaxLines))
		}
	}
	for _, text := range texts {
		n, f := tongue.Parse(text)
		switch {
		case f != none && !alike(n, api.Node{}):
			t.Errorf("a tree with a fault: %s", short(text))
		case f.Code == api.ErrText && (f.At < 0 || f.At > len(text)):
			t.Errorf("a fault at %d of %s", f.At, short(text))
		case f == none && len(text) < 10000:
			holdDeep(t, text+"\nx;//\n")
		}
	}
}

// lists visits all lists of a tree, up to the end of their room.
func lists(n api.Node, visit func([]api.Node)) {
	visit(n.Kids[:cap(n.Kids)])
	for _, kid := range n.Kids {
		lists(kid, visit)
	}
}

func TestAnswersAreNewMemory(t *testing.T) {
	first, second := parsed(t, everything), parsed(t, everything)
	seen := map[*api.Node]bool{}
	for _, n := range []api.Node{first, second} {
		lists(n, func(list []api.Node) {
			for i := range list {
				if seen[&list[i]] {
					t.Fatal("two lists share memory")
				}
				seen[&list[i]] = true
			}
		})
	}
	want := told(second)
	var all [][]api.Node
	lists(first, func(list []api.Node) { all = append(all, list) })
	for _, list := range all {
		for i := range list {
			list[i] = api.Node{Kind: -77, Name: "spoiled"}
		}
	}
	equal(t, "another answer", told(second), want)
	equal(t, "what is answered next", told(parsed(t, everything)), want)
}

// Of what is handed in nothing is kept: writing into it later changes no answer.
func TestArgumentsAreNotKept(t *testing.T) {
	bytes := []byte(everything)
	n := parsed(t, unsafe.String(&bytes[0], len(bytes)))
	want := told(parsed(t, everything))
	for i := range bytes {
		bytes[i] = '#'
	}
	equal(t, "kept", told(n), want)

	tree := parsed(t, everything)
	text := tongue.Print(tree)
	lists(tree, func(list []api.Node) {
		for i := range list {
			list[i].Name = "other"
		}
	})
	equal(t, "kept", text, tongue.Print(parsed(t, everything)))
	name := []byte("name")
	text = tongue.Print(api.Node{Kind: api.NProgram, Kids: []api.Node{{Kind: api.NReset, Kids: []api.Node{{Kind: api.NRef, Name: unsafe.String(&name[0], len(name))}}}}})
	clear(name)
	equal(t, "kept", text, "reset name;\n")
}

// emptied has empty lists in place of those that are nil, and the other way round.
func emptied(n api.Node) api.Node {
	kids := make([]api.Node, 0, len(n.Kids)+2)
	for _, kid := range n.Kids {
		kids = append(kids, emptied(kid))
	}
	n.Kids = append(kids, api.Node{Kind: api.NName, Name: "behind"}, api.Node{Kind: api.NBlock})[:len(n.Kids)]
	return n
}

// Lists may be nil or empty; behind their ends there may be room, which is neither read nor written into.
func TestListsMayBeNilOrEmpty(t *testing.T) {
	s := scribe{noise: 6}
	for i := range 300 {
		_, tree := s.program(i % 60)
		other := emptied(tree)
		equal(t, "nil or empty", tongue.Print(other), tongue.Print(tree))
		lists(other, func(list []api.Node) {
			room := list[len(list)-2:]
			if room[0].Name != "behind" || room[1].Kind != api.NBlock {
				t.Error("written behind a list")
			}
		})
	}
	equal(t, "an empty program", tongue.Print(api.Node{Kind: api.NProgram, Kids: []api.Node{}}), "")
}
