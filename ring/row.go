package ring

import (
	"qloom/api"
	"qloom/whole"
)

// row is the sum of row[i] times z^i.
type row [8]whole.Int

// add adds n times z^k. It takes any k: z^8 is -1, and z^16 is 1 again.
func (r *row) add(k int, n whole.Int) {
	if n.Sign() == 0 {
		return
	}
	if k&8 != 0 {
		n = n.Neg()
	}
	r[k&7] = r[k&7].Add(n)
}

// addProduct adds n times z^k times the other sum.
func (r *row) addProduct(k int, n whole.Int, other *row) {
	if n.Sign() == 0 {
		return
	}
	for i := range other {
		if other[i].Sign() != 0 {
			r.add(k+i, n.Mul(other[i]))
		}
	}
}

// shift makes the sum 2^by times what it was; below 0, it must be divisible so often.
func (r *row) shift(by int) {
	if by == 0 {
		return
	}
	for i := range r {
		// Nought may be shifted farther than there is time for.
		if r[i].Sign() != 0 {
			r[i] = shift(r[i], by)
		}
	}
}

// shift is n times 2^by. Layer 1 shifts only so far in one go.
func shift(n whole.Int, by int) whole.Int {
	for by != 0 {
		step := max(-api.MaxShift, min(by, api.MaxShift))
		n, _ = n.Shift(step)
		by -= step
	}
	return n
}

func (r *row) zero() bool {
	for i := range r {
		if r[i].Sign() != 0 {
			return false
		}
	}
	return true
}

// length is how many parts there are up to the last that is not 0; 1, if all are.
func (r *row) length() int {
	n := len(r)
	for n > 1 && r[n-1].Sign() == 0 {
		n--
	}
	return n
}

// twos is how often 2 divides all parts; they must not all be 0.
func (r *row) twos() int {
	least := -1
	for i := range r {
		if r[i].Sign() == 0 {
			continue
		}
		if twos := r[i].Twos(); least < 0 || twos < least {
			least = twos
		}
	}
	return least
}

// evenByRoot: is the root of two, z^2 - z^6, times the sum an even one? A part
// of that is the sum or the difference of two parts four apart.
func (r *row) evenByRoot() bool {
	for i := range 4 {
		if odd(r[i]) != odd(r[i+4]) {
			return false
		}
	}
	return true
}

func odd(n whole.Int) bool { return n.Sign() != 0 && n.Twos() == 0 }
