package tongue_test

import (
	"strconv"
	"strings"

	"qloom/api"
)

// scribe writes programs without order, with blanks and remarks of all kinds
// between their tokens, and knows the trees that they have.
type scribe struct {
	noise
	text strings.Builder
	room int // how much more it writes before it looks for an end
}

// program is a text and its tree.
func (s *scribe) program(room int) (string, api.Node) {
	s.text.Reset()
	s.room = room
	n := api.Node{Kind: api.NProgram}
	for s.room > 0 {
		n.Kids = append(n.Kids, s.item())
	}
	s.blank()
	text := s.text.String()
	if s.below(3) == 0 {
		text += "// no line feed"
	}
	return text, n
}

// blank writes what may stand between tokens.
func (s *scribe) blank() {
	if strings.HasSuffix(s.text.String(), "/") {
		s.text.WriteByte(' ') // the sign must not begin a remark
	}
	for s.below(3) == 0 {
		s.text.WriteString(s.pick(" ", "  ", "\t", "\n", "\r", "\r\n", "//\n", "// ; } x\n", "//// \xff\x00\r\"\n"))
	}
}

// token writes a token, and is its place.
func (s *scribe) token(word string) int {
	s.room--
	before := s.text.Len()
	s.blank()
	text := s.text.String()
	if before == len(text) && before > 0 && isWordByte(text[before-1]) && isWordByte(word[0]) {
		s.text.WriteByte(' ')
	}
	at := s.text.Len()
	s.text.WriteString(word)
	return at
}

func isWordByte(b byte) bool {
	return b == '_' || b >= '0' && b <= '9' || b >= 'a' && b <= 'z' || b >= 'A' && b <= 'Z'
}

// more: should more be written?
func (s *scribe) more() bool { return s.room > 0 && s.below(2) == 0 }

// named writes a name, and is a node that begins with it.
func (s *scribe) named(kind int) api.Node {
	name := s.pick("a", "b", "q", "x", "h", "_", "__", "Z", "a1", "_9", "qubits", "qubi", "iF", "IN", "e1x", "bits_", "in_", "sizes", "pow2", "a0b1c2")
	return api.Node{Kind: kind, At: s.token(name), Name: name}
}

// begun writes a word, and is a node that begins with it.
func (s *scribe) begun(kind int, word string) api.Node {
	return api.Node{Kind: kind, At: s.token(word)}
}

func (s *scribe) list(write func() api.Node) []api.Node {
	out := []api.Node{write()}
	for s.more() {
		s.token(",")
		out = append(out, write())
	}
	return out
}

func grouped(list []api.Node) api.Node { return api.Node{Kind: api.NGroup, Kids: list} }

func (s *scribe) item() api.Node {
	switch s.below(8) {
	case 0:
		return s.register(api.NQubit, "qubit")
	case 1:
		return s.register(api.NBit, "bit")
	case 2:
		n := s.begun(api.NConst, "const")
		n.Name = s.named(0).Name
		s.token("=")
		n.Kids = append(n.Kids, s.expr())
		s.token(";")
		return n
	case 3:
		return s.gate()
	}
	return s.statement()
}

func (s *scribe) register(kind int, word string) api.Node {
	n := s.begun(kind, word)
	n.Name = s.named(0).Name
	s.token("[")
	n.Kids = append(n.Kids, s.expr())
	s.token("]")
	s.token(";")
	return n
}

func (s *scribe) gate() api.Node {
	n := s.begun(api.NGate, "gate")
	n.Name = s.named(0).Name
	var numbers []api.Node
	if s.more() {
		s.token("(")
		numbers = s.list(func() api.Node { return s.named(api.NParam) })
		s.token(")")
	}
	n.Kids = append(n.Kids, grouped(numbers), grouped(s.list(s.wire)))
	n.Kids = append(n.Kids, s.block())
	return n
}

func (s *scribe) wire() api.Node {
	n := s.named(api.NParam)
	if s.more() {
		s.token("[")
		s.token("]")
		n.N = 1
	}
	return n
}

func (s *scribe) block() api.Node {
	n := s.begun(api.NBlock, "{")
	for s.more() {
		n.Kids = append(n.Kids, s.statement())
	}
	s.token("}")
	return n
}

func (s *scribe) statement() api.Node {
	switch s.below(9) {
	case 0:
		n := s.begun(api.NFor, "for")
		n.Name = s.named(0).Name
		s.token("in")
		n.Kids = append(n.Kids, s.expr())
		s.token("..")
		n.Kids = append(n.Kids, s.expr())
		n.Kids = append(n.Kids, s.block())
		return n
	case 1:
		n := s.begun(api.NWhen, "when")
		n.Kids = append(n.Kids, s.expr())
		n.Kids = append(n.Kids, s.block())
		return n
	case 2:
		return s.choice()
	case 3:
		n := s.begun(api.NMeasure, "measure")
		n.Kids = append(n.Kids, s.ref())
		s.token("->")
		n.Kids = append(n.Kids, s.ref())
		s.token(";")
		return n
	case 4:
		n := s.begun(api.NReset, "reset")
		n.Kids = append(n.Kids, s.ref())
		s.token(";")
		return n
	case 5:
		n := s.begun(api.NWithin, "within")
		n.Kids = append(n.Kids, s.block())
		s.token("apply")
		n.Kids = append(n.Kids, s.block())
		return n
	case 6:
		ref := s.ref()
		s.token("^=")
		n := api.Node{Kind: api.NFlip, At: ref.At, Kids: []api.Node{ref, s.truth()}}
		s.token(";")
		return n
	}
	return s.application()
}

func (s *scribe) choice() api.Node {
	n := s.begun(api.NIf, "if")
	if s.more() {
		s.token("!")
		n.N = 1
	}
	n.Kids = append(n.Kids, s.ref())
	n.Kids = append(n.Kids, s.block())
	if s.more() {
		s.token("else")
		n.Kids = append(n.Kids, s.block())
	}
	return n
}

func (s *scribe) application() api.Node {
	var mods, numbers, refs []api.Node
	for s.more() {
		mods = append(mods, s.mod())
		s.token("@")
	}
	name := s.named(0)
	n := api.Node{Kind: api.NApply, At: name.At, Name: name.Name}
	if len(mods) > 0 {
		n.At = mods[0].At
	}
	if s.more() {
		s.token("(")
		numbers = s.list(s.expr)
		s.token(")")
	}
	if s.more() {
		refs = s.list(s.ref)
	}
	s.token(";")
	n.Kids = []api.Node{grouped(mods), grouped(numbers), grouped(refs)}
	return n
}

func (s *scribe) mod() api.Node {
	switch s.below(3) {
	case 0:
		return s.begun(api.NInv, "inv")
	case 1:
		return s.begun(api.NCtrl, "ctrl")
	}
	n := s.begun(api.NPow, "pow")
	s.token("(")
	n.Kids = append(n.Kids, s.expr())
	s.token(")")
	return n
}

func (s *scribe) ref() api.Node {
	n := s.named(api.NRef)
	if !s.more() {
		return n
	}
	s.token("[")
	n.Kids = append(n.Kids, s.expr())
	if s.more() {
		s.token("..")
		n.Kids = append(n.Kids, s.expr())
	}
	s.token("]")
	n.N = len(n.Kids)
	return n
}

// row writes parts with signs between them, grouped to the left.
func (s *scribe) row(kind int, write func() api.Node, signs ...string) api.Node {
	n := write()
	for s.more() && s.more() {
		n = s.pair(kind, n, s.pick(signs...), write)
	}
	return n
}

// pair writes a sign, and what stands behind it.
func (s *scribe) pair(kind int, left api.Node, sign string, write func() api.Node) api.Node {
	n := s.begun(kind, sign)
	if kind == api.NBin {
		n.Name = sign
	}
	n.Kids = []api.Node{left, write()}
	return n
}

func (s *scribe) expr() api.Node {
	n := s.sum()
	if s.more() && s.more() {
		n = s.pair(api.NBin, n, s.pick("==", "!=", "<", "<=", ">", ">="), s.sum)
	}
	return n
}

func (s *scribe) sum() api.Node { return s.row(api.NBin, s.prod, "+", "-") }

func (s *scribe) prod() api.Node { return s.row(api.NBin, s.sign, "*", "/", "%") }

func (s *scribe) sign() api.Node {
	if s.more() && s.more() {
		n := s.begun(api.NNeg, "-")
		n.Kids = append(n.Kids, s.sign())
		return n
	}
	n := s.unit()
	if s.more() && s.more() {
		n = s.pair(api.NBin, n, "**", s.sign)
	}
	return n
}

func (s *scribe) unit() api.Node {
	switch s.below(4) {
	case 0:
		word := s.pick("0", "1", "7", "10", "12", "900000000", "999999999")
		n := s.begun(api.NNum, word)
		n.N, _ = strconv.Atoi(word)
		return n
	case 1:
		n := s.begun(api.NSize, "size")
		s.token("(")
		n.Name = s.named(0).Name
		s.token(")")
		return n
	case 2:
		if s.room > 0 {
			return s.inBrackets(s.expr)
		}
	}
	return s.named(api.NName)
}

func (s *scribe) inBrackets(write func() api.Node) api.Node {
	s.token("(")
	n := write()
	s.token(")")
	return n
}

func (s *scribe) truth() api.Node { return s.row(api.NOr, s.xor, "|") }

func (s *scribe) xor() api.Node { return s.row(api.NXor, s.and, "^") }

func (s *scribe) and() api.Node { return s.row(api.NAnd, s.not, "&") }

func (s *scribe) not() api.Node {
	switch {
	case s.more() && s.more():
		n := s.begun(api.NNot, "!")
		n.Kids = append(n.Kids, s.not())
		return n
	case s.more():
		return s.inBrackets(s.truth)
	case s.below(4) == 0:
		n := s.begun(api.NOne, s.pick("0", "1"))
		n.N = int(s.text.String()[n.At] - '0')
		return n
	}
	return s.ref()
}
