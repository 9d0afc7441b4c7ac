package paths

import "qloom/ring"

// amplitudes are those of all basis states, from basis state in, as they are written.
func (s *pathSum) amplitudes(in int) []string {
	// Of each basis state: how many ways end there, by how they are turned.
	ways := make([][16]int, 1<<s.in)
	for path := range 1 << s.vars {
		ones := product(in | path<<s.in)
		ways[s.end(ones)][value(s.phase, ones)]++
	}
	out := make([]string, len(ways))
	for o := range ways {
		out[o] = halved(ways[o][:], s.half).Text()
	}
	return out
}

// end is the basis state in which a way ends: the one on which these variables are 1.
func (s *pathSum) end(ones product) int {
	o := 0
	for q, form := range s.outs {
		o |= int(value(form, ones)) << q
	}
	return o
}

// halved is the sum of so many times each root, over the root of two so many times.
func halved(times []int, half int) ring.Num {
	// Two times the root of two are 2; what is left over is 0 or 1, below 0 too.
	n, _ := ring.Make(times, half>>1)
	if half&1 == 1 {
		return n.Half()
	}
	return n
}
