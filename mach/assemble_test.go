package mach_test

import (
	"fmt"
	"slices"
	"strings"
	"testing"

	"qloom/api"
	"qloom/mach"
)

func TestAssembleExamples(t *testing.T) {
	got, f := mach.Assemble("qubits 1 bits 0\nx 0\nload 0 2\nagain:\np 1 0\nloop 0 again\n")
	equal(t, "the fault", f, none)
	equal(t, "the image", got, "QLM1\x01\x00\x00\x04\x02\x00\x0d\x00\x00\x02\x04\x01\x00\x0e\x00\x00\x02\xac\xfd\x5d\x81")
	got, f = mach.Assemble(all)
	equal(t, "the fault", f, none)
	equal(t, "the image", got, allImage)
	got, f = mach.Assemble("qubits 1 bits 0\n")
	equal(t, "the fault", f, none)
	equal(t, "an image without instructions", got, bare)
	got, f = mach.Assemble("qubits 1 bits 0\njump L0\nL0:\n")
	equal(t, "the fault", f, none)
	equal(t, "two lines of a text", got, sealed(1, 0, 1, 8, 0, 1))
}

// takes holds Assemble to an image: of 2 qubits, 2 bits and so many instructions.
func takes(t *testing.T, count byte, rest []byte, list ...string) {
	t.Helper()
	text := lines(append([]string{"qubits 2 bits 2"}, list...)...)
	got, f := mach.Assemble(text)
	if want := sealed(2, 2, count, rest...); got != want || f != none {
		t.Errorf("Assemble of %s: %s, %v, want %s", short(text), short(got), f, short(want))
	}
	assembled(t, text)
}

func TestAssembleOfLabels(t *testing.T) {
	twenty := "abcdefghijKLMNOPQRST"
	takes(t, 1, []byte{8, 0, 0}, twenty+":", "jump "+twenty)
	takes(t, 1, []byte{8, 0, 0}, "a2345678901234567890:", "jump a2345678901234567890")
	takes(t, 0, nil, twenty+":")
	for _, label := range []string{"a", "z", "A", "Z", "a0", "Z9", "aB9", "L0", "L00", "q", "on", "x1", "qubits", "bits", "K"} {
		takes(t, 1, []byte{8, 0, 1}, "jump "+label, label+":")
	}
	for _, row := range manual {
		takes(t, 2, []byte{8, 0, 0, 9, 1, 0, 0}, row.word+":", "jump "+row.word, "if1 1 "+row.word)
	}
	takes(t, 2, []byte{8, 0, 2, 8, 0, 0}, "a:", "jump b", "jump a", "b:")
	takes(t, 1, []byte{8, 0, 1}, "jump A", "a:", "A:", "b:")
	takes(t, 2, []byte{8, 0, 1, 0}, "jump a", "a:", "b:", "c:", "halt")
	takes(t, 3, []byte{9, 0, 0, 1, 10, 1, 0, 1, 14, 3, 0, 1}, "if1 0 c", "a:", "b:", "c:", "if0 1 a", "loop 3 b")
	takes(t, 2, []byte{0, 0}, "a:", "halt", "b:", "halt", "c:")
	takes(t, 0, nil, "a:", "b:", "c:")
	takes(t, 1, []byte{8, 0, 0}, "a:", "b:", "jump a")
	for _, bad := range []string{twenty + "u", "a23456789012345678901", "", "0", "0a", "1", "a b", "a_b", "_", "a-b", "-", "a.", "ä", "aä", "a\x00", "a\t", ".", "a:", " a", "a ", "L\xff", "é1", "[", "`", "@", "{", "a[", "a`", "a@", "a{", "a/"} {
		unassembled(t, "a label", lines("qubits 2 bits 2", "halt", bad+":"), fault(api.ErrText, 2))
		if bad != "" {
			unassembled(t, "where it goes", lines("qubits 2 bits 2", "halt", "jump "+bad), fault(api.ErrText, 2))
		}
	}
}

// Each operand is taken up to where it ends, and refused above it, At its line.
func TestAssembleOfOperands(t *testing.T) {
	for _, tried := range []struct {
		line string
		code int
	}{
		{"phase 15", 0}, {"phase 16", api.ErrAngle}, {"phase 99999", api.ErrAngle}, {"p 15 0", 0}, {"p 16 0", api.ErrAngle}, {"p 16 9", api.ErrAngle}, {"p 0 2", api.ErrQubit}, {"p 0 1", 0},
		{"x 1", 0}, {"x 2", api.ErrQubit}, {"x 99999", api.ErrQubit}, {"x 257", api.ErrQubit}, {"h 1", 0}, {"h 2", api.ErrQubit}, {"reset 1", 0}, {"reset 2", api.ErrQubit},
		{"cx 0 1", 0}, {"cx 1 0", 0}, {"cx 0 0", api.ErrClone}, {"cx 1 1", api.ErrClone}, {"cx 2 2", api.ErrQubit}, {"cx 2 0", api.ErrQubit}, {"cx 0 2", api.ErrQubit}, {"cx 0 256", api.ErrQubit},
		{"measure 1 2", 0}, {"measure 2 3", api.ErrQubit}, {"measure 1 3", api.ErrBit}, {"set 2 1", 0}, {"set 3 2", api.ErrBit}, {"set 2 2", api.ErrRange}, {"set 0 0", 0}, {"set 0 256", api.ErrRange},
		{"xor 2 2", 0}, {"xor 3 0", api.ErrBit}, {"xor 0 3", api.ErrBit}, {"xor 3 99999", api.ErrBit}, {"load 3 65535", 0}, {"load 4 0", api.ErrVar}, {"load 4 65536", api.ErrVar}, {"load 3 65536", api.ErrRange},
		{"load 0 99999", api.ErrRange}, {"load 0 65537", api.ErrRange}, {"loop 3 on", 0}, {"loop 4 on", api.ErrVar}, {"loop 4 off", api.ErrVar}, {"loop 3 off", api.ErrName}, {"jump off", api.ErrName}, {"jump On", api.ErrName},
		{"if1 2 on", 0}, {"if1 3 on", api.ErrBit}, {"if1 3 off", api.ErrBit}, {"if1 0 off", api.ErrName}, {"if0 2 on", 0}, {"if0 3 on", api.ErrBit}, {"if0 0 off", api.ErrName}, {"if0 99999 off", api.ErrBit},
		{"halt", 0}, {"jump on", 0}, {"jump halt", api.ErrName},
	} {
		for ahead := range 3 {
			list := append([]string{"qubits 2 bits 3"}, []string{"on:", "halt", "x 0"}[:1+ahead]...)
			text := lines(append(list, tried.line, "jump nowhere")...)
			want := fault(tried.code, 2+ahead)
			if tried.code == 0 {
				want = fault(api.ErrName, 3+ahead)
				assembled(t, lines(append(list, tried.line)...))
			}
			unassembled(t, tried.line, text, want)
		}
	}
}

func TestAssembleOfFirstLines(t *testing.T) {
	for _, line := range []string{
		"", " ", "h 0", "halt", "a:", "qubits:", "qubits", "qubits 1", "qubits 1 ", "qubits 1 bits", "qubits 1 bits ", "qubits 1 bits 0 ", " qubits 1 bits 0", "qubits  1 bits 0", "qubits 1  bits 0", "qubits 1 bits  0",
		"Qubits 1 bits 0", "qubit 1 bits 0", "qubits 1 bit 0", "qubits -1 bits 0", "qubits 1 bits -1", "qubits 01 bits 0", "qubits 1 bits 00", "qubits 1 bits 0 0", "qubits 1, bits 0", "qubits +1 bits 0", "qubits 1 Bits 0",
		"qubits 100000 bits 0", "qubits 1 bits 100000", "qubits 000001 bits 0", "qubits 1 bits 0\r", "bits 0 qubits 1", "qubits 1bits 0", "qubits1 bits 0", "qubits x bits 0", "qubits bits 0", "qubits 1\tbits 0", "\ufeffqubits 1 bits 0", "\x00", "\xff",
		"qubits 1 qubits 0", "bits 1 bits 0", "qubits １ bits 0",
	} {
		unassembled(t, line, lines(line), fault(api.ErrText, 0))
		unassembled(t, line, lines(line, "h 0", "nothing of the kind"), fault(api.ErrText, 0))
	}
	for line, want := range map[string]api.Fault{
		"qubits 0 bits 0": fault(api.ErrQubits, 0), "qubits 13 bits 0": fault(api.ErrQubits, 0), "qubits 99999 bits 99999": fault(api.ErrQubits, 0), "qubits 257 bits 0": fault(api.ErrQubits, 0),
		"qubits 0 bits 13": fault(api.ErrQubits, 0), "qubits 1 bits 13": fault(api.ErrBits, 0), "qubits 12 bits 99999": fault(api.ErrBits, 0), "qubits 1 bits 256": fault(api.ErrBits, 0),
	} {
		unassembled(t, line, lines(line), want)
		unassembled(t, line, lines(line, "a:", "a:", "jump b", "x 99"), want)
	}
	for qubits := 1; qubits <= 12; qubits++ {
		for bits := range 13 {
			got, f := mach.Assemble(fmt.Sprintf("qubits %d bits %d\n", qubits, bits))
			equal(t, "a first line", fmt.Sprint(got, f), fmt.Sprint(sealed(byte(qubits), byte(bits), 0), none))
		}
	}
}

func TestAssembleOfLinesWithoutForm(t *testing.T) {
	for _, line := range []string{
		"", " ", ":", "halt ", " halt", "halt 0", "Halt", "HALT", "halts", "hal", "halt\r", "halt\t", "halt;", "halt :", "phase", "phase ", "phase 1 0", "phase  1", "phase -1", "phase a", "phase 016", "phase 00", "phase 100000", "phase1",
		"x", "x ", "x 0 ", "x  0", "x\t0", "x 0 1", "x 00", "x 01", "x +0", "x 0x0", "x 1.", "x 100000", "x 000000", "x 9999999999999999999999", "x a", "x on", "x １", "x 0\x00", "X 0", "x 0 on 1", "x 0 if 0", "y 0", "z 0",
		"h", "h 0 0", "h 01", "p", "p 1", "p 1 0 0", "p 01 0", "p 1 00", "p 1  0", "p  1 0", "p 1 0 ", "p a 0", "cx", "cx 0", "cx 0 1 1", "cx 0 01", "cx 0,1", "cx 0 a", "measure", "measure 0", "measure 0 to 0", "measure 0 0 0", "measure 0 00", "measures 0 0",
		"reset", "reset 0 0", "reset 01", "jump", "jump ", "jump 0", "jump 5", "jump a b", "jump a ", "jump a:", "jump  a", "jump -", "if1", "if1 0", "if1 a", "if1 0 0", "if1 a 0", "if1 a b", "if1 0 a b", "if1 01 a", "if2 0 a", "if 0 a", "if0", "if0 0", "if0 0 1", "if0 0 a ", "if0 00 a",
		"set", "set 0", "set 0 1 1", "set 0 01", "set 00 1", "set a 1", "xor", "xor 0", "xor 0 a", "xor 0 1 2", "xor 0 00", "load", "load 0", "load 0 100000", "load 0 00", "load 0 065535", "load 00 1", "load a 1", "load 0 a", "load 0 1 2", "load 0 -1",
		"loop", "loop 0", "loop 0 0", "loop a", "loop a 0", "loop 00 a", "loop 0 a b", "qubits 1 bits 0", "bits 0", "a", "L0", "a: halt", "halt a:", "a:b:", "a::", "a :", " a:", "a: ", ":a", "0:", "# a", "// a", "\x00", "\xff", "halt\v", "\ufeffhalt",
	} {
		unassembled(t, line, lines("qubits 2 bits 2", line), fault(api.ErrText, 1))
		unassembled(t, line, lines("qubits 2 bits 2", "a:", "x 0", line, "h 0", "nothing of the kind"), fault(api.ErrText, 3))
	}
}

// Five digits are a number, though never a qubit or a bit; six are none.
func TestAssembleOfLongNumbers(t *testing.T) {
	for line, code := range map[string]int{"phase N": api.ErrAngle, "x N": api.ErrQubit, "h N": api.ErrQubit, "p N 0": api.ErrAngle, "p 0 N": api.ErrQubit, "cx N 0": api.ErrQubit, "cx 0 N": api.ErrQubit,
		"measure N 0": api.ErrQubit, "measure 0 N": api.ErrBit, "reset N": api.ErrQubit, "if1 N a": api.ErrBit, "if0 N a": api.ErrBit, "set N 0": api.ErrBit, "set 0 N": api.ErrRange, "xor N 0": api.ErrBit, "xor 0 N": api.ErrBit,
		"load N 0": api.ErrVar, "load 0 N": api.ErrRange, "loop N a": api.ErrVar} {
		for _, number := range []string{"99999", "70000"} {
			unassembled(t, line, lines("qubits 2 bits 2", "a:", strings.Replace(line, "N", number, 1)), fault(code, 2))
		}
		for _, number := range []string{"100000", "999999", "000000", "00000", "00001", "012", "00", "1000000000000000000000000"} {
			unassembled(t, line, lines("qubits 2 bits 2", "a:", strings.Replace(line, "N", number, 1)), fault(api.ErrText, 2))
		}
	}
}

func TestAssembleOfTextsWithoutAnEnd(t *testing.T) {
	for s, line := range map[string]int{
		"": 0, "\n": 0, "\n\n": 0, "q": 0, "qubits 1 bits 0": 0, "qubits 1 bits ": 0, "qubits 1 bits 0\nh 0": 1, "qubits 1 bits 0\n\n": 1, "qubits 1 bits 0\nh 0\n\n": 2, "qubits 1 bits 0\nh 0\nh 0": 2,
		"qubits 1 bits 0\nh 0\n ": 2, "qubits 1 bits 0\na:": 1, "qubits 1 bits 0\nhalt": 1, "qubits 1 bits 0\nbad\nh 0": 1, "qubits 1 bits 0\r\nh 0\r\n": 0, "qubits 1 bits 0\rh 0\r": 0, "qubits 13 bits 0\nh 0": 1,
		"qubits 1 bits 0\na:\na:\nh 9": 3, "qubits 1 bits 0\nhalt\x00": 1, " ": 0, "qubits 0 bits 0": 0,
	} {
		unassembled(t, "without an end", s, fault(api.ErrText, line))
	}
}

func TestAssembleOfLabelsThatStandTwice(t *testing.T) {
	for _, tried := range []struct {
		at   int
		list []string
	}{
		{2, []string{"a:", "a:"}}, {3, []string{"a:", "b:", "a:"}}, {3, []string{"a:", "b:", "b:", "a:"}}, {4, []string{"a:", "halt", "b:", "a:"}}, {3, []string{"a:", "jump c", "a:"}},
		{2, []string{"halt:", "halt:"}}, {4, []string{"A:", "a:", "x 99", "a:", "A:"}}, {3, []string{"a:", "a1:", "a1:", "a:"}}, {5, []string{"x 99", "jump b", "a:", "jump a", "a:"}},
	} {
		unassembled(t, "twice", lines(append([]string{"qubits 2 bits 2"}, tried.list...)...), fault(api.ErrTwice, tried.at))
	}
	list := []string{"qubits 2 bits 2"}
	for i := range 5000 {
		list = append(list, fmt.Sprintf("a%d:", i))
	}
	unassembled(t, "twice", lines(append(list, "a4321:", "a0:")...), fault(api.ErrTwice, 5001))
	takes(t, 0, nil, list[1:]...)
}

// A text with everything wrong is mended in the order of the faults, and each time the
// next one is told.
func TestAssembleTellsTheFirstFault(t *testing.T) {
	many := strings.Repeat("halt\n", 65536)
	all := []string{"qubits 13 bits 13", "cx 5 5", "if1 9 off", "load 4 65536", "a:", "a:", many + "bad"}
	for _, step := range []struct {
		at   int
		line string
		want api.Fault
	}{
		{6, many + strings.Repeat("a1:\n", 170000) + "bad", fault(api.ErrLong, 0)},
		{6, many + "bad", fault(api.ErrText, 65536+6)},
		{6, many + "halt", fault(api.ErrQubits, 0)},
		{0, "qubits 2 bits 13", fault(api.ErrBits, 0)},
		{0, "qubits 2 bits 2", fault(api.ErrTwice, 5)},
		{5, "b:", fault(api.ErrMany, 0)},
		{6, "halt", fault(api.ErrQubit, 1)},
		{1, "cx 1 5", fault(api.ErrQubit, 1)},
		{1, "cx 1 1", fault(api.ErrClone, 1)},
		{1, "cx 1 0", fault(api.ErrBit, 2)},
		{2, "if1 1 off", fault(api.ErrName, 2)},
		{2, "if1 1 a", fault(api.ErrVar, 3)},
		{3, "load 3 65536", fault(api.ErrRange, 3)},
	} {
		all[step.at] = step.line
		if _, f := mach.Assemble(lines(all...)); f != step.want {
			t.Errorf("with line %d mended: %v, want %v", step.at, f, step.want)
		}
	}
	all[3] = "load 3 65535"
	takes(t, 4, []byte{5, 1, 0, 9, 1, 0, 3, 13, 3, 255, 255, 0}, all[1:]...)
}

// Images as long as can be, by their bytes or by their instructions, and above that.
func TestAssembleOfManyInstructions(t *testing.T) {
	repeated := func(line string, count int) string { return strings.Repeat(line+"\n", count) }
	head := "qubits 12 bits 12\n"
	for _, tried := range []struct {
		text string
		size int
	}{
		{repeated("halt", 65535), 12 + 65535},
		{repeated("h 11", 49994), api.MaxImage},
		{repeated("p 0 0", 33329) + "halt\n", api.MaxImage},
		{repeated("load 0 0", 24997), api.MaxImage},
		{"a:\n" + repeated("jump a", 33329) + "halt\nb:\n", api.MaxImage},
		{repeated("halt", 31082) + repeated("h 0", 34453), api.MaxImage},
	} {
		got, f := mach.Assemble(head + tried.text)
		if f != none || len(got) != tried.size {
			t.Errorf("as many as can be: %d bytes, %v, want %d", len(got), f, tried.size)
		}
		if f := mach.Check(got); f != none {
			t.Errorf("as many as can be: an image with the fault %v", f)
		}
		if tried.size == api.MaxImage || strings.HasPrefix(tried.text, "halt") {
			unassembledLong(t, head+tried.text+"halt\n", fault(api.ErrMany, 0))
			unassembledLong(t, head+"halt\n"+tried.text, fault(api.ErrMany, 0))
		}
	}
	unassembledLong(t, head+repeated("halt", 65536), fault(api.ErrMany, 0))
	unassembledLong(t, head+repeated("jump nowhere", 33330), fault(api.ErrMany, 0))
	unassembledLong(t, head+repeated("halt", 65534)+"jump nowhere\n", fault(api.ErrName, 65535))
	unassembledLong(t, head+repeated("h 12", 49994), fault(api.ErrQubit, 1))
}

// unassembledLong holds Assemble of a text that is not told to a fault.
func unassembledLong(t *testing.T, text string, want api.Fault) {
	t.Helper()
	if out, f := mach.Assemble(text); f != want || out != "" {
		t.Errorf("Assemble of %d bytes: %d bytes, %v, want %v", len(text), len(out), f, want)
	}
}

func TestAssembleOfLongTexts(t *testing.T) {
	var text strings.Builder
	text.WriteString("qubits 1 bits 0\n")
	for i := 0; text.Len() < api.MaxText-24; i++ {
		fmt.Fprintf(&text, "a%018d:\n", i)
	}
	text.WriteString(strings.Repeat("b", api.MaxText-text.Len()-2) + ":\n")
	full := text.String()
	equal(t, "the length", len(full), api.MaxText)
	got, f := mach.Assemble(full)
	equal(t, "as long as can be", fmt.Sprint(got, f), fmt.Sprint(bare, none))
	unassembledLong(t, strings.Replace(full, "b:\n", "bb:\n", 1), fault(api.ErrLong, 0))
	unassembledLong(t, full+"\n", fault(api.ErrLong, 0))
	unassembledLong(t, full[:api.MaxText-1]+"x", fault(api.ErrText, strings.Count(full, "\n")-1))
	unassembledLong(t, strings.Repeat("x", api.MaxText), fault(api.ErrText, 0))
	unassembledLong(t, strings.Repeat("x", api.MaxText+1), fault(api.ErrLong, 0))
	unassembledLong(t, strings.Repeat("\n", 16*api.MaxText), fault(api.ErrLong, 0))
	unassembledLong(t, "qubits 1 bits 0\n"+strings.Repeat(" ", api.MaxText-16), fault(api.ErrText, 1))
	unassembledLong(t, "qubits 1 bits 0\nx "+strings.Repeat("9", api.MaxText-19)+"\n", fault(api.ErrText, 1))
}

// All texts of up to three lines of a few.
func TestAssembleOfAllShortTexts(t *testing.T) {
	pool := []string{"a:", "b:", "jump a", "if1 0 b", "loop 4 a", "x 1", "cx 0 0", "load 0 65536", "halt", "set 0 2", "p 16 1", "none", ""}
	for _, head := range []string{"qubits 1 bits 1", "qubits 1 bits 0", "qubits 0 bits 1", "qubits 2 bits 13"} {
		for _, first := range pool {
			assembled(t, lines(head, first))
			for _, second := range pool {
				assembled(t, lines(head, first, second))
				for _, third := range pool {
					assembled(t, lines(head, first, second, third))
				}
			}
		}
	}
}

// spoilText changes, leaves out, doubles or exchanges words, signs or lines of a text.
func (n *noise) spoilText(text string) string {
	for range 1 + n.below(2) {
		list := strings.Split(text, "\n")
		at, other := n.below(len(list)), n.below(len(list))
		words := strings.Split(list[at], " ")
		word := n.below(len(words))
		switch n.below(8) {
		case 0:
			words[word] = []string{"", "0", "1", "2", "3", "4", "12", "13", "15", "16", "65535", "65536", "99999", "100000", "00", "to0", "to5", "a", "halt", "x", "x:", "jump", "-1"}[n.below(23)]
			list[at] = strings.Join(words, " ")
		case 1:
			list[at] = strings.Join(slices.Delete(words, word, word+1), " ")
		case 2:
			list[at] = strings.Join(slices.Insert(words, word, words[n.below(len(words))]), " ")
		case 3:
			list[at], list[other] = list[other], list[at]
		case 4:
			list = slices.Insert(list, at, list[other])
		case 5:
			list = slices.Delete(list, at, at+1)
		case 6:
			sign := n.below(len(list[at]) + 1)
			list[at] = list[at][:sign] + []string{" ", ":", "0", "a", "\t", "\r", "\x00", "\xc3"}[n.below(8)] + list[at][sign:]
		case 7:
			words[word] = words[n.below(len(words))]
			list[at] = strings.Join(words, " ")
		}
		text = strings.Join(list, "\n")
		if n.below(20) == 0 {
			text = text[:n.below(len(text)+1)]
		}
	}
	return text
}

func TestAssembleOfSpoiledTexts(t *testing.T) {
	met := map[int]int{}
	for i := range 60000 {
		n := noise(i)
		text := n.program(1+n.below(12), n.below(13), n.below(10))
		if n.below(10) > 0 {
			text = n.spoilText(text)
		}
		_, want := wantedImage(text)
		met[want.Code]++
		assembled(t, text)
	}
	for _, code := range []int{0, api.ErrText, api.ErrQubits, api.ErrBits, api.ErrTwice, api.ErrName, api.ErrAngle, api.ErrQubit, api.ErrClone, api.ErrBit, api.ErrVar, api.ErrRange} {
		if met[code] < 20 {
			t.Errorf("only %d texts with the code %d", met[code], code)
		}
	}
}
