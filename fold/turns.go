package fold

import "qloom/api"

// turns are the turns of one form, without its 1, brought together.
type turns struct {
	first int  // the place of the first of them
	less  bool // is what is turned there 1 less the form?
	k     int  // what all of them come to
}

// gather brings turns together whose forms are the same but for 1: where the first of
// them stands all is turned, the others turn by 0. It answers by how much all
// amplitudes are to be turned beside that.
func gather(gates []gate, qubits int) int {
	phase := 0
	gathered := map[form]turns{}
	along := follow(qubits)
	for i, g := range gates {
		along.pass(g)
		if g.kind == api.P {
			phase += count(gathered, along.product(g.reads), i, g.k)
			gates[i].k = 0
		}
	}
	for _, all := range gathered {
		k, beside := seen(all.k, all.less)
		gates[all.first].k = sixteenths(k)
		phase += beside
	}
	return phase
}

// count counts the turn by k of a form, which stands at place i, among those of the
// form without its 1. It answers by how much all is to be turned beside that.
func count(gathered map[form]turns, f form, i, k int) int {
	less := f.hasOne()
	if less {
		f = sum(f, one)
	}
	k, beside := seen(k, less)
	all, ok := gathered[f]
	if !ok {
		all = turns{first: i, less: less}
	}
	all.k += k
	gathered[f] = all
	return beside
}

// seen is a turn by k of a form as it is seen from the form, or from 1 less it: from
// there it is a turn by -k, and one by k of all.
func seen(k int, less bool) (turn, beside int) {
	if less {
		return -k, k
	}
	return k, 0
}
