package mach

import "qloom/api"

// magic is what an image begins with.
const magic = "QLM1"

// Widths of an image's numbers, in bytes.
const (
	countBytes = 2                  // how many instructions there are
	headBytes  = 1 + 1 + countBytes // all that stands between the magic and the instructions
	sumBytes   = 4
)

// read is the program of an image.
func read(image string) program {
	if len(image) > api.MaxImage {
		refuse(api.ErrLong, 0)
	}
	in := reader{image: image}
	in.magic()
	p := program{bounds: in.head()}
	for range p.count {
		p.list = append(p.list, in.instruction(p.bounds))
	}
	in.sum()
	if in.at < len(image) {
		refuse(api.ErrForm, in.at)
	}
	return p
}

// reader goes through an image from the left, and gives up at the first fault.
type reader struct {
	image string
	at    int
}

// number reads a number of so many bytes.
func (in *reader) number(bytes int) int {
	if len(in.image)-in.at < bytes {
		refuse(api.ErrText, len(in.image))
	}
	n := 0
	for range bytes {
		n = n<<8 | int(in.image[in.at])
		in.at++
	}
	return n
}

func (in *reader) magic() {
	for at, want := range magic {
		if in.number(1) != int(want) {
			refuse(api.ErrMagic, at)
		}
	}
}

// head reads how many qubits, bits and instructions there are.
func (in *reader) head() bounds {
	var b bounds
	at := in.at
	b.qubits = in.number(1)
	needQubits(b.qubits, at)
	at = in.at
	b.bits = in.number(1)
	needBits(b.bits, at)
	b.count = in.number(countBytes)
	return b
}

func (in *reader) instruction(b bounds) instruction {
	at := in.at
	one := instruction{number: in.number(1)}
	if one.number >= len(shapes) {
		refuse(api.ErrKind, at)
	}
	for i, operand := range shapes[one.number].operands {
		at = in.at
		one.operands[i] = in.number(width(operand))
		b.need(one, i, at)
	}
	return one
}

// sum reads the sum of what stands ahead of it.
func (in *reader) sum() {
	at := in.at
	if in.number(sumBytes) != int(sum(in.image[:at])) {
		refuse(api.ErrSum, at)
	}
}

// sum is the sum of bytes; it wraps round where the document takes it modulo 2^32.
func sum(ahead string) uint32 {
	total := uint32(1)
	for i := range len(ahead) {
		total = 31*total + uint32(ahead[i])
	}
	return total
}

// image is the program's image.
func (p program) image() string {
	out := append([]byte(magic), byte(p.qubits), byte(p.bits))
	out = appendNumber(out, p.count, countBytes)
	for _, one := range p.list {
		out = append(out, byte(one.number))
		for i, operand := range shapes[one.number].operands {
			out = appendNumber(out, one.operands[i], width(operand))
		}
	}
	return string(appendNumber(out, int(sum(string(out))), sumBytes))
}

// appendNumber adds a number of so many bytes.
func appendNumber(out []byte, n, bytes int) []byte {
	for i := range bytes {
		out = append(out, byte(n>>(8*(bytes-1-i))))
	}
	return out
}
