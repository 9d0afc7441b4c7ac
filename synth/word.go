package synth

import (
	"qloom/api"
	"qloom/pauli"
)

// syllable is a plain gate, and behind it, in the word, a T.
type syllable struct {
	text string
	head plain
}

// syllables are those that normal forms are made of, the one that only stands first
// ahead of the others. Each makes of Z another letter.
func syllables() []syllable {
	return []syllable{
		{text: "T", head: idle()},
		{text: "HT", head: fork()},
		{text: "SHT", head: quarter().times(fork())},
	}
}

// word is a normal form: syllables, and a plain gate behind them.
type word struct {
	syllables []syllable
	plain     plain
}

// add puts a gate behind the word.
func (w *word) add(op api.Op) {
	if op.Kind == api.P && op.K%4 != 0 {
		w.addEighth()
		op.K -= 2
	}
	w.plain = w.plain.times(plainOf(op))
}

// addEighth puts a T behind the word. The plain gate is parted into the head of a
// syllable and a tail that leaves Z as it is, but for its sign. T passes the tail; if Z
// changes its sign there, as the T that turns the other way, which is T and three S.
func (w *word) addEighth() {
	next := startOf(w.plain)
	tail := next.head.undone().times(w.plain)
	if tail.z != idle().z {
		tail = quarter().undone().times(tail)
	}
	last := len(w.syllables) - 1
	if next.head != idle() || last < 0 {
		w.syllables = append(w.syllables, next)
		w.plain = tail
		return
	}
	// Two Ts meet: they are an S.
	w.plain = w.syllables[last].head.times(quarter()).times(tail)
	w.syllables = w.syllables[:last]
}

// startOf is the syllable whose head makes of Z what the plain gate does, but for its
// sign.
func startOf(a plain) syllable {
	axis := pauli.Pauli{X: a.z.X, Z: a.z.Z}
	var out syllable
	for _, s := range syllables() {
		if s.head.z == axis {
			out = s
		}
	}
	return out
}

// texts are the syllables, and what the plain gate makes of X and of Z.
func (w *word) texts() []string {
	var out []string
	for _, s := range w.syllables {
		out = append(out, s.text)
	}
	return append(out, w.plain.x.Text(1), w.plain.z.Text(1))
}
