package mach_test

import (
	"fmt"
	"regexp"
	"strconv"
	"strings"
	"testing"

	"qloom/api"
	"qloom/state"
)

// The document's words, written out once more.

// table is the document's table of instructions, as it stands there.
const table = `
| 0 | halt | |
| 1 | phase | K |
| 2 | x | q |
| 3 | h | q |
| 4 | p | K q |
| 5 | cx | q q |
| 6 | measure | q b |
| 7 | reset | q |
| 8 | jump | a |
| 9 | if1 | b a |
| 10 | if0 | b a |
| 11 | set | b v |
| 12 | xor | b b |
| 13 | load | r n |
| 14 | loop | r a |
`

// row is one of the table.
type row struct {
	word     string
	operands string
}

// manual has the rows of the table, by their numbers.
var manual = rows()

func rows() []row {
	var out []row
	for _, line := range strings.Split(strings.TrimSpace(table), "\n") {
		cells := strings.Split(line, "|")
		out = append(out, row{strings.TrimSpace(cells[2]), strings.ReplaceAll(strings.TrimSpace(cells[3]), " ", "")})
	}
	return out
}

// bytesOf is how many bytes an operand has.
func bytesOf(letter byte) int {
	return map[byte]int{'a': 2, 'n': 2}[letter] + map[byte]int{'K': 1, 'q': 1, 'b': 1, 'v': 1, 'r': 1}[letter]
}

// wantedSum are the four bytes of the sum of what stands ahead of it.
func wantedSum(ahead string) string {
	sum := 1
	for _, one := range []byte(ahead) {
		sum = (sum*31 + int(one)) % (1 << 32)
	}
	return wide(sum>>16) + wide(sum%65536)
}

// wide is a number of two bytes, the highest first.
func wide(n int) string { return string([]byte{byte(n / 256), byte(n % 256)}) }

// operandCode is the code of an operand that there isn't.
func operandCode(letter byte, n, qubits, bits, count int) int {
	switch {
	case letter == 'K' && n > 15:
		return api.ErrAngle
	case letter == 'q' && n >= qubits:
		return api.ErrQubit
	case letter == 'b' && n >= bits:
		return api.ErrBit
	case letter == 'r' && n > 3:
		return api.ErrVar
	case letter == 'v' && n > 1, letter == 'a' && n > count, letter == 'n' && n > 65535:
		return api.ErrRange
	}
	return 0
}

// decoded is an instruction of an image.
type decoded struct {
	row
	values []int
}

// decode is what stands in an image, and its first fault from the left.
func decode(image string) (qubits, bits int, list []decoded, f api.Fault) {
	at := 0
	missing := func(n int) bool {
		if len(image) < at+n && f == none {
			f = fault(api.ErrText, len(image))
		}
		return f != none
	}
	take := func(n int) int {
		value := 0
		for _, one := range []byte(image[at : at+n]) {
			value = 256*value + int(one)
		}
		at += n
		return value
	}
	if len(image) > 100000 {
		return 0, 0, nil, fault(api.ErrLong, 0)
	}
	for i := range 4 {
		if missing(1) {
			return
		}
		if take(1) != int("QLM1"[i]) {
			return 0, 0, nil, fault(api.ErrMagic, i)
		}
	}
	if missing(1) {
		return
	}
	if qubits = take(1); qubits < 1 || qubits > 12 {
		return 0, 0, nil, fault(api.ErrQubits, 4)
	}
	if missing(1) {
		return
	}
	if bits = take(1); bits > 12 {
		return 0, 0, nil, fault(api.ErrBits, 5)
	}
	if missing(2) {
		return
	}
	for count, left := take(2), 0; left < count; left++ {
		if missing(1) {
			return
		}
		number := take(1)
		if number > 14 {
			return 0, 0, nil, fault(api.ErrKind, at-1)
		}
		one := decoded{row: manual[number]}
		for _, letter := range []byte(one.operands) {
			if missing(bytesOf(letter)) {
				return
			}
			from := at
			value := take(bytesOf(letter))
			if code := operandCode(letter, value, qubits, bits, count); code != 0 {
				return 0, 0, nil, fault(code, from)
			}
			if one.word == "cx" && len(one.values) == 1 && value == one.values[0] {
				return 0, 0, nil, fault(api.ErrClone, from)
			}
			one.values = append(one.values, value)
		}
		list = append(list, one)
	}
	if missing(4) {
		return
	}
	if image[at:at+4] != wantedSum(image[:at]) {
		return 0, 0, nil, fault(api.ErrSum, at)
	}
	if at+4 < len(image) {
		return 0, 0, nil, fault(api.ErrForm, at+4)
	}
	return qubits, bits, list, none
}

// wantedRun runs an image by the document's words: what it does is a circuit, and what
// that leaves is left to layer 4, which takes no more than 4096 operations.
func wantedRun(t *testing.T, image string, in int, tape []int, fuel int) (api.Run, api.Fault) {
	t.Helper()
	qubits, bits, list, f := decode(image)
	switch {
	case f != none:
		return api.Run{}, f
	case in < 0 || in >= 1<<qubits:
		return api.Run{}, fault(api.ErrInput, 0)
	case fuel < 0 || fuel > 20000:
		return api.Run{}, fault(api.ErrRange, 0)
	}
	c := api.Circuit{Qubits: qubits, Bits: bits}
	held, registers := make([]int, bits), map[int]int{}
	used, steps := 0, 0
	for at := 0; at < len(list); {
		if steps == fuel {
			return api.Run{}, fault(api.ErrFuel, at)
		}
		steps++
		one := list[at]
		v := append(append([]int{}, one.values...), 0, 0)
		next := at + 1
		outcome := 0
		if one.word == "measure" || one.word == "reset" {
			if used == len(tape) {
				return api.Run{}, fault(api.ErrTape, at)
			}
			outcome = tape[used]
			if outcome != 0 && outcome != 1 {
				return api.Run{}, fault(api.ErrOutcome, at)
			}
			used++
		}
		switch one.word {
		case "halt":
			next = len(list)
		case "phase":
			c.Ops = append(c.Ops, api.Op{Kind: api.Phase, K: v[0]})
		case "x":
			c.Ops = append(c.Ops, api.Op{Kind: api.X, Q: v[0]})
		case "h":
			c.Ops = append(c.Ops, api.Op{Kind: api.H, Q: v[0]})
		case "p":
			c.Ops = append(c.Ops, api.Op{Kind: api.P, K: v[0], Q: v[1]})
		case "cx":
			c.Ops = append(c.Ops, api.Op{Kind: api.X, Q: v[1], Ctl: []int{v[0]}})
		case "measure":
			c.Ops = append(c.Ops, api.Op{Kind: api.Measure, Q: v[0], Bit: v[1]})
			held[v[1]] = outcome
		case "reset":
			c.Ops = append(c.Ops, api.Op{Kind: api.Reset, Q: v[0]})
		case "jump":
			next = v[0]
		case "if1":
			next = []int{next, v[1]}[held[v[0]]]
		case "if0":
			next = []int{v[1], next}[held[v[0]]]
		case "set":
			held[v[0]] = v[1]
		case "xor":
			held[v[0]] = (held[v[0]] + held[v[1]]) % 2
		case "load":
			registers[v[0]] = v[1]
		case "loop":
			if registers[v[0]] > 0 {
				registers[v[0]] -= 1
				next = v[1]
			}
		}
		at = next
	}
	shot, f := state.Run(c, in, tape)
	if f != none {
		t.Fatalf("the run of what was done: %v", f)
	}
	shot.Bits = held
	return api.Run{Shot: shot, Steps: steps}, none
}

// wantedText is an image's text by the document's words.
func wantedText(image string) (string, api.Fault) {
	qubits, bits, list, f := decode(image)
	if f != none {
		return "", f
	}
	label := func(place int) string {
		ahead, here := map[int]bool{}, false
		for _, one := range list {
			if strings.HasSuffix(one.operands, "a") {
				to := one.values[len(one.values)-1]
				here = here || to == place
				if to < place {
					ahead[to] = true
				}
			}
		}
		if !here {
			return ""
		}
		return fmt.Sprintf("L%d", len(ahead))
	}
	out := fmt.Sprintf("qubits %d bits %d\n", qubits, bits)
	for place := 0; place <= len(list); place++ {
		if name := label(place); name != "" {
			out += name + ":\n"
		}
		if place == len(list) {
			break
		}
		out += list[place].word
		for i, value := range list[place].values {
			if list[place].operands[i] == 'a' {
				out += " " + label(value)
			} else {
				out += fmt.Sprintf(" %d", value)
			}
		}
		out += "\n"
	}
	return out, none
}

// Forms of what stands on a line.
const (
	numberForm = `(?:0|[1-9][0-9]{0,4})`
	labelForm  = `[A-Za-z][A-Za-z0-9]{0,19}`
)

var (
	headLine  = regexp.MustCompile(`\Aqubits (` + numberForm + `) bits (` + numberForm + `)\z`)
	labelLine = regexp.MustCompile(`\A(` + labelForm + `):\z`)
	otherLine = regexp.MustCompile(instructionForm())
)

// instructionForm is the form of a line with an instruction.
func instructionForm() string {
	var forms []string
	for _, row := range manual {
		form := row.word
		for _, letter := range row.operands {
			if letter == 'a' {
				form += " " + labelForm
			} else {
				form += " " + numberForm
			}
		}
		forms = append(forms, form)
	}
	return `\A(?:` + strings.Join(forms, "|") + `)\z`
}

// wantedImage is the image of a text, or its first fault, by the document's words.
func wantedImage(text string) (string, api.Fault) {
	if len(text) > 1000000 {
		return "", fault(api.ErrLong, 0)
	}
	all := strings.Split(text, "\n")
	for i, line := range all {
		isLast := i == len(all)-1
		if isLast && line == "" && i > 0 {
			break
		}
		if isLast || i == 0 && !headLine.MatchString(line) || i > 0 && !labelLine.MatchString(line) && !otherLine.MatchString(line) {
			return "", fault(api.ErrText, i)
		}
	}
	all = all[:len(all)-1]
	head := headLine.FindStringSubmatch(all[0])
	qubits, _ := strconv.Atoi(head[1])
	bits, _ := strconv.Atoi(head[2])
	if qubits < 1 || qubits > 12 {
		return "", fault(api.ErrQubits, 0)
	}
	if bits > 12 {
		return "", fault(api.ErrBits, 0)
	}
	places, count, size := map[string]int{}, 0, 12
	for i, line := range all[1:] {
		if label := labelLine.FindStringSubmatch(line); label != nil {
			if _, ok := places[label[1]]; ok {
				return "", fault(api.ErrTwice, i+1)
			}
			places[label[1]] = count
			continue
		}
		count++
		size += 1
		for _, letter := range []byte(rowOf(line).operands) {
			size += bytesOf(letter)
		}
	}
	if count > 65535 || size > 100000 {
		return "", fault(api.ErrMany, 0)
	}
	out := "QLM1" + string([]byte{byte(qubits), byte(bits)}) + wide(count)
	for i, line := range all[1:] {
		if labelLine.MatchString(line) {
			continue
		}
		bytes, code := instructionBytes(line, qubits, bits, count, places)
		if code != 0 {
			return "", fault(code, i+1)
		}
		out += bytes
	}
	return out + wantedSum(out), none
}

// rowOf is the row of the instruction on a line.
func rowOf(line string) row {
	word, _, _ := strings.Cut(line, " ")
	for _, row := range manual {
		if row.word == word {
			return row
		}
	}
	return row{}
}

// instructionBytes are those of the instruction on a line, or the code of what is wrong
// with it.
func instructionBytes(line string, qubits, bits, count int, places map[string]int) (string, int) {
	words := strings.Split(line, " ")
	number := 0
	for manual[number].word != words[0] {
		number++
	}
	out := string([]byte{byte(number)})
	for i, letter := range []byte(manual[number].operands) {
		value, ok := places[words[1+i]]
		if letter == 'a' && !ok {
			return "", api.ErrName
		}
		if letter != 'a' {
			value, _ = strconv.Atoi(words[1+i])
		}
		if code := operandCode(letter, value, qubits, bits, count); code != 0 {
			return "", code
		}
		if words[0] == "cx" && i == 1 && words[1] == words[2] {
			return "", api.ErrClone
		}
		if bytesOf(letter) == 2 {
			out += wide(value)
		} else {
			out += string([]byte{byte(value)})
		}
	}
	return out, 0
}
