package loom

import (
	"strconv"
	"strings"
)

// number stands in the texts of programs where their number is to be; it begins no token.
const number = "#"

// add brings what is carried out of each place into a, and takes it away again once
// it is summed: so no qubits are needed for it.
const add = `qubit a[#];
qubit b[#];
qubit c[1];

// What is carried out of a place is what is carried into it where a[i] and b[i]
// are unlike, and a[i] else. Here a[i] is turned over where something is carried
// into it, b[i] where a[i] was 1, and the place behind it where a[i] was 1.
gate ripple(i) a[], b[], c {
	when i == size(a) - 1 {
		c ^= a[i] & b[i];
	}
	when i < size(a) - 1 {
		within {
			a[i + 1] ^= a[i] & b[i];
		} apply {
			ripple(i + 1) a, b, c;
			b[i + 1] ^= a[i + 1];
		}
	}
}

for i in 1 .. size(a) {
	b[i] ^= a[i];
}
when size(a) > 1 {
	c[0] ^= a[size(a) - 1];
}
within {
	for i in 2 .. size(a) {
		a[size(a) + 1 - i] ^= a[size(a) - i];
	}
} apply {
	ripple(0) a, b, c[0];
}
for i in 0 .. size(a) {
	b[i] ^= a[i];
}
`

const qft = `qubit q[#];

for i in 0 .. size(q) / 2 {
	swap q[i], q[size(q) - 1 - i];
}
for i in 0 .. size(q) {
	for j in 0 .. i {
		ctrl @ p(16 / 2 ** (i - j + 1)) q[j], q[i];
	}
	h q[i];
}
`

// find is Grover's search: among four basis states once is enough.
const find = `qubit q[2];

gate spread q[] {
	for i in 0 .. size(q) {
		h q[i];
	}
}

// Turns basis state n alone, by half a turn.
gate mark(n) a, b {
	within {
		when n % 2 == 0 {
			x a;
		}
		when n / 2 == 0 {
			x b;
		}
	} apply {
		ctrl @ z a, b;
	}
}

spread q;
mark(#) q[0], q[1];
within {
	spread q;
} apply {
	mark(0) q[0], q[1];
	phase(8);
}
`

const send = `qubit q[3];
bit b[2];

h q[0];
p(#) q[0];
h q[0];

h q[1];
ctrl @ x q[1], q[2];

ctrl @ x q[0], q[1];
h q[0];
measure q[0 .. 2] -> b;
if b[1] {
	x q[2];
}
if b[0] {
	z q[2];
}
`

// program is a program's text, and which numbers it is for.
type program struct {
	text        string
	least, most int
}

// known is the program of a name.
func known(name string) (program, bool) {
	switch name {
	case "add":
		return program{add, 1, 3}, true
	case "qft":
		return program{qft, 1, 4}, true
	case "find":
		return program{find, 0, 3}, true
	case "send":
		return program{send, 0, 15}, true
	}
	return program{}, false
}

// textFor is the program's text for one of its numbers.
func (p program) textFor(n int) string {
	return strings.ReplaceAll(p.text, number, strconv.Itoa(n))
}
