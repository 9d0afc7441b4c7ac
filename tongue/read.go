package tongue

import "qloom/api"

// reader makes trees of tokens, and gives up at the first one that cannot stand
// where it does. It has a method for each rule of the grammar.
type reader struct {
	scanner
}

// open is a node that begins with the token at which the reader stands, and goes
// past it.
func (in *reader) open(kind int) api.Node {
	n := api.Node{Kind: kind, At: in.place}
	in.next()
	return n
}

// named is a node that begins with its own name.
func (in *reader) named(kind int) api.Node {
	n := api.Node{Kind: kind, At: in.place}
	n.Name = in.name()
	return n
}

// group is a list as a node.
func group(list []api.Node) api.Node {
	return api.Node{Kind: api.NGroup, Kids: list}
}

// list reads what part reads, once or more often, with commas between.
func (in *reader) list(part func() api.Node) []api.Node {
	out := []api.Node{part()}
	for in.take(",") {
		out = append(out, part())
	}
	return out
}

// between reads what part reads, between two words.
func (in *reader) between(open string, part func() api.Node, shut string) api.Node {
	in.need(open)
	n := part()
	in.need(shut)
	return n
}

// listInBrackets reads a list in brackets, if there is one.
func (in *reader) listInBrackets(part func() api.Node) []api.Node {
	if !in.take("(") {
		return nil
	}
	out := in.list(part)
	in.need(")")
	return out
}

func (in *reader) program() api.Node {
	n := api.Node{Kind: api.NProgram}
	for in.kind != noMore {
		n.Kids = append(n.Kids, in.item())
	}
	return n
}

func (in *reader) item() api.Node {
	switch in.word {
	case "qubit":
		return in.register(api.NQubit)
	case "bit":
		return in.register(api.NBit)
	case "const":
		return in.constant()
	case "gate":
		return in.gate()
	}
	return in.statement()
}

func (in *reader) register(kind int) api.Node {
	n := in.open(kind)
	n.Name = in.name()
	n.Kids = append(n.Kids, in.between("[", in.expr, "]"))
	in.need(";")
	return n
}

func (in *reader) constant() api.Node {
	n := in.open(api.NConst)
	n.Name = in.name()
	n.Kids = append(n.Kids, in.between("=", in.expr, ";"))
	return n
}

func (in *reader) gate() api.Node {
	n := in.open(api.NGate)
	n.Name = in.name()
	n.Kids = append(n.Kids, group(in.listInBrackets(in.param)))
	n.Kids = append(n.Kids, group(in.list(in.wire)))
	n.Kids = append(n.Kids, in.block())
	return n
}

func (in *reader) param() api.Node { return in.named(api.NParam) }

func (in *reader) wire() api.Node {
	n := in.param()
	if in.take("[") {
		in.need("]")
		n.N = 1
	}
	return n
}

func (in *reader) block() api.Node {
	n := api.Node{Kind: api.NBlock, At: in.place}
	in.need("{")
	for !in.take("}") {
		n.Kids = append(n.Kids, in.statement())
	}
	return n
}

func (in *reader) statement() api.Node {
	switch in.word {
	case "for":
		return in.loop()
	case "when":
		return in.when()
	case "if":
		return in.choice()
	case "measure":
		return in.measure()
	case "reset":
		return in.reset()
	case "within":
		return in.within()
	}
	if in.kind == aName && isFlip(in.wordBehind()) {
		return in.flip()
	}
	return in.application()
}

// isFlip: is a statement a flip that has this word behind a name?
func isFlip(behind string) bool { return behind == "[" || behind == "^=" }

func (in *reader) loop() api.Node {
	n := in.open(api.NFor)
	n.Name = in.name()
	n.Kids = append(n.Kids, in.between("in", in.expr, ".."))
	n.Kids = append(n.Kids, in.expr())
	n.Kids = append(n.Kids, in.block())
	return n
}

func (in *reader) when() api.Node {
	n := in.open(api.NWhen)
	n.Kids = append(n.Kids, in.expr())
	n.Kids = append(n.Kids, in.block())
	return n
}

func (in *reader) choice() api.Node {
	n := in.open(api.NIf)
	if in.take("!") {
		n.N = 1
	}
	n.Kids = append(n.Kids, in.ref())
	n.Kids = append(n.Kids, in.block())
	if in.take("else") {
		n.Kids = append(n.Kids, in.block())
	}
	return n
}

func (in *reader) measure() api.Node {
	n := in.open(api.NMeasure)
	n.Kids = append(n.Kids, in.ref())
	n.Kids = append(n.Kids, in.between("->", in.ref, ";"))
	return n
}

func (in *reader) reset() api.Node {
	n := in.open(api.NReset)
	n.Kids = append(n.Kids, in.ref())
	in.need(";")
	return n
}

func (in *reader) within() api.Node {
	n := in.open(api.NWithin)
	n.Kids = append(n.Kids, in.block())
	in.need("apply")
	n.Kids = append(n.Kids, in.block())
	return n
}

func (in *reader) flip() api.Node {
	n := api.Node{Kind: api.NFlip, At: in.place}
	n.Kids = append(n.Kids, in.ref())
	n.Kids = append(n.Kids, in.between("^=", in.truth, ";"))
	return n
}

func (in *reader) application() api.Node {
	n := api.Node{Kind: api.NApply, At: in.place}
	mods := in.mods()
	n.Name = in.name()
	numbers := in.listInBrackets(in.expr)
	var refs []api.Node
	if in.kind == aName {
		refs = in.list(in.ref)
	}
	in.need(";")
	n.Kids = []api.Node{group(mods), group(numbers), group(refs)}
	return n
}

func (in *reader) mods() []api.Node {
	var out []api.Node
	for {
		switch in.word {
		case "inv":
			out = append(out, in.open(api.NInv))
		case "ctrl":
			out = append(out, in.open(api.NCtrl))
		case "pow":
			out = append(out, in.pow())
		default:
			return out
		}
		in.need("@")
	}
}

func (in *reader) pow() api.Node {
	n := in.open(api.NPow)
	n.Kids = append(n.Kids, in.between("(", in.expr, ")"))
	return n
}

func (in *reader) ref() api.Node {
	n := in.named(api.NRef)
	if !in.take("[") {
		return n
	}
	n.Kids = append(n.Kids, in.expr())
	if in.take("..") {
		n.Kids = append(n.Kids, in.expr())
	}
	in.need("]")
	n.N = len(n.Kids)
	return n
}
