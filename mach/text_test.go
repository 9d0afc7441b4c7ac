package mach_test

import (
	"fmt"
	"slices"
	"strings"
	"testing"

	"qloom/api"
	"qloom/mach"
)

// written is Text's text where nothing is refused.
func written(t *testing.T, image string) string {
	t.Helper()
	out, f := mach.Text(image)
	if f != none {
		t.Fatalf("Text of %s: %v", short(image), f)
	}
	return out
}

// again holds an image to its text by the document's words, and to its being assembled
// to the same bytes.
func again(t *testing.T, image string) {
	t.Helper()
	want, _ := wantedText(image)
	got := written(t, image)
	if got != want {
		t.Errorf("Text of %s: %s, want %s", short(image), short(got), short(want))
	}
	back, f := mach.Assemble(got)
	if f != none || back != image {
		t.Errorf("Assemble of %s: %s, %v, want %s", short(got), short(back), f, short(image))
	}
}

func TestTextOfEachInstruction(t *testing.T) {
	equal(t, "all instructions", written(t, allImage), all)
	equal(t, "none", written(t, bare), "qubits 1 bits 0\n")
	equal(t, "many qubits and bits", written(t, sealed(12, 10, 0)), "qubits 12 bits 10\n")
	for _, tried := range []struct {
		rest []byte
		want string
	}{
		{[]byte{0}, "halt"}, {[]byte{1, 0}, "phase 0"}, {[]byte{1, 15}, "phase 15"}, {[]byte{2, 10}, "x 10"}, {[]byte{3, 11}, "h 11"}, {[]byte{4, 12, 9}, "p 12 9"},
		{[]byte{5, 11, 0}, "cx 11 0"}, {[]byte{6, 3, 11}, "measure 3 11"}, {[]byte{7, 0}, "reset 0"}, {[]byte{11, 11, 0}, "set 11 0"}, {[]byte{11, 0, 1}, "set 0 1"},
		{[]byte{12, 1, 10}, "xor 1 10"}, {[]byte{12, 5, 5}, "xor 5 5"}, {[]byte{13, 3, 255, 255}, "load 3 65535"}, {[]byte{13, 0, 1, 0}, "load 0 256"}, {[]byte{13, 1, 0, 0}, "load 1 0"},
	} {
		s := sealed(12, 12, 1, tried.rest...)
		equal(t, tried.want, written(t, s), lines("qubits 12 bits 12", tried.want))
		again(t, s)
	}
}

// A label stands where something goes, and nowhere else; labels are counted from the
// first place on, whatever goes there first, and each stands once.
func TestTextOfLabels(t *testing.T) {
	for _, tried := range []struct {
		rest []byte
		want []string
	}{
		{[]byte{8, 0, 0}, []string{"L0:", "jump L0"}},
		{[]byte{8, 0, 1}, []string{"jump L0", "L0:"}},
		{[]byte{9, 1, 0, 0}, []string{"L0:", "if1 1 L0"}},
		{[]byte{10, 0, 0, 1}, []string{"if0 0 L0", "L0:"}},
		{[]byte{14, 3, 0, 1}, []string{"loop 3 L0", "L0:"}},
		{[]byte{8, 0, 1, 0}, []string{"jump L0", "L0:", "halt"}},
		{[]byte{0, 8, 0, 0}, []string{"L0:", "halt", "jump L0"}},
		{[]byte{8, 0, 2, 8, 0, 1}, []string{"jump L1", "L0:", "jump L0", "L1:"}},
		{[]byte{8, 0, 2, 8, 0, 2, 8, 0, 2}, []string{"jump L0", "jump L0", "L0:", "jump L0"}},
		{[]byte{8, 0, 3, 8, 0, 2, 8, 0, 1}, []string{"jump L2", "L0:", "jump L1", "L1:", "jump L0", "L2:"}},
		{[]byte{8, 0, 3, 0, 9, 0, 0, 0}, []string{"L0:", "jump L1", "halt", "if1 0 L0", "L1:"}},
		{[]byte{0, 13, 2, 0, 0, 0}, []string{"halt", "load 2 0", "halt"}},
		{[]byte{13, 2, 0, 1, 4, 1, 1}, []string{"load 2 1", "p 1 1"}},
	} {
		count := len(tried.want) - strings.Count(strings.Join(tried.want, ""), ":")
		s := sealed(2, 2, byte(count), tried.rest...)
		equal(t, "labels", written(t, s), lines(append([]string{"qubits 2 bits 2"}, tried.want...)...))
		again(t, s)
	}
}

// Labels with more than one digit are in the order of their places, not of their texts.
func TestTextOfManyLabels(t *testing.T) {
	for _, count := range []int{11, 102, 300} {
		var rest []byte
		want := []string{"qubits 1 bits 0"}
		for i := range count {
			to := count - 1 - i
			rest = append(rest, 8, byte(to>>8), byte(to))
			want = append(want, fmt.Sprintf("L%d:", i), fmt.Sprintf("jump L%d", to))
		}
		ahead := "QLM1\x01\x00" + wide(count) + string(rest)
		equal(t, "labels", written(t, ahead+wantedSum(ahead)), lines(want...))
		again(t, ahead+wantedSum(ahead))
	}
}

// All images of two instructions that go somewhere, and one between.
func TestTextOfAllPlaces(t *testing.T) {
	for first := range 4 {
		for second := range 4 {
			again(t, sealed(1, 1, 3, 8, 0, byte(first), 0, 10, 0, 0, byte(second)))
			again(t, sealed(1, 1, 3, 0, 9, 0, 0, byte(first), 14, 2, 0, byte(second)))
		}
	}
}

// Images of all instructions are assembled again, and what their texts mean is what they do.
func TestTextIsAssembledAgain(t *testing.T) {
	for i := range 3000 {
		n := noise(i)
		s, _ := wantedImage(n.program(1+n.below(12), n.below(13), n.below(40)))
		again(t, s)
	}
	for i := range 200 {
		n := noise(i)
		s, _ := wantedImage(n.program(2, 2, n.below(12)))
		back, f := mach.Assemble(written(t, s))
		equal(t, "assembled again", f, none)
		for in := range 4 {
			tape := n.tape()
			was, wf := mach.Run(s, in, tape, 100)
			is, f := mach.Run(back, in, tape, 100)
			equal(t, "run again", fmt.Sprint(is, f), fmt.Sprint(was, wf))
		}
	}
}

// The longest texts of all are still taken.
func TestTextOfLongImages(t *testing.T) {
	for _, one := range []string{"\x08\x00\x00", "\x00", "\x07\x0b", "\x06\x0b\x0b", "\x09\x0b\x00\x00", "\x0d\x03\xff\xff", "\x0e\x03\x00\x00"} {
		count := min(65535, (api.MaxImage-12)/len(one))
		ahead := []byte("QLM1\x0c\x0c" + wide(count) + strings.Repeat(one, count))
		if slices.Contains([]byte{8, 9, 14}, one[0]) {
			for i := range count {
				copy(ahead[8+(i+1)*len(one)-2:], wide(count-i))
			}
		}
		s := string(ahead) + wantedSum(string(ahead))
		text := written(t, s)
		if len(text) > api.MaxText {
			t.Errorf("a text of %d bytes", len(text))
		}
		if back, f := mach.Assemble(text); f != none || back != s {
			t.Errorf("not assembled again: %v, %s", f, short(text))
		}
		equal(t, "instructions", strings.Count(text, "\n")-strings.Count(text, ":\n"), count+1)
	}
}
