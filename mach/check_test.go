package mach_test

import (
	"fmt"
	"slices"
	"strings"
	"testing"

	"qloom/api"
	"qloom/mach"
)

// all is a program with each instruction, and allImage its image, byte by byte.
var all = lines("qubits 3 bits 2", "L0:", "phase 15", "x 2", "h 1", "p 7 0", "cx 0 2", "measure 1 1", "reset 2", "jump L1",
	"L1:", "if1 1 L3", "if0 0 L0", "set 1 1", "xor 0 1", "load 3 65534", "L2:", "loop 2 L2", "halt", "L3:")

const allImage = "QLM1\x03\x02\x00\x0f" +
	"\x01\x0f" + "\x02\x02" + "\x03\x01" + "\x04\x07\x00" + "\x05\x00\x02" + "\x06\x01\x01" + "\x07\x02" + "\x08\x00\x08" +
	"\x09\x01\x00\x0f" + "\x0a\x00\x00\x00" + "\x0b\x01\x01" + "\x0c\x00\x01" + "\x0d\x03\xff\xfe" + "\x0e\x02\x00\x0d" + "\x00" +
	"\x89\x14\xd9\x98"

// bare is the image of 1 qubit, 0 bits and no instructions.
const bare = "QLM1\x01\x00\x00\x00\xac\xf5\x54\xbf"

func TestCheckTakesImages(t *testing.T) {
	for _, image := range []string{
		bare, allImage, sealed(1, 0, 0), sealed(12, 12, 0), sealed(12, 0, 2, 0, 0), sealed(1, 12, 1, 6, 0, 11), sealed(1, 0, 1, 8, 0, 0), sealed(1, 0, 1, 8, 0, 1),
		"QLM1\x01\x00\x00\x04\x02\x00\x0d\x00\x00\x02\x04\x01\x00\x0e\x00\x00\x02\xac\xfd\x5d\x81",
	} {
		checked(t, "an image", image, none)
	}
	equal(t, "the length of an image without instructions", len(bare), 12)
	for i := range 500 {
		n := noise(i)
		image, f := wantedImage(n.program(1+n.below(12), n.below(13), n.below(30)))
		equal(t, "a program", f, none)
		checked(t, "an image", image, none)
	}
}

func TestCheckOfTheFirstBytes(t *testing.T) {
	for at := range 4 {
		for value := range 256 {
			image := []byte(bare)
			image[at] = byte(value)
			want := none
			if value != int(bare[at]) {
				want = fault(api.ErrMagic, at)
			}
			checked(t, "magic", string(image), want)
			checked(t, "magic alone", string(image[:at+1]), fault([]int{api.ErrText, api.ErrMagic}[min(1, want.Code)], at+1-min(1, want.Code)))
		}
	}
	checked(t, "two bytes that are not as said", "QxMx", fault(api.ErrMagic, 1))
	checked(t, "small letters", strings.ToLower(bare), fault(api.ErrMagic, 0))
	for value := range 256 {
		want := none
		if value < 1 || value > 12 {
			want = fault(api.ErrQubits, 4)
		}
		checked(t, "qubits", sealed(byte(value), 0, 0), want)
		want = none
		if value > 12 {
			want = fault(api.ErrBits, 5)
		}
		checked(t, "bits", sealed(12, byte(value), 0), want)
	}
}

// An instruction's number, and each of its operands, takes all values of a byte.
func TestCheckOfInstructions(t *testing.T) {
	for value := range 256 {
		if value > 14 {
			checked(t, "a kind", sealed(3, 2, 1, byte(value), 0, 0, 0), fault(api.ErrKind, 8))
			checked(t, "a second kind", sealed(3, 2, 2, 0, byte(value)), fault(api.ErrKind, 9))
		}
	}
	codes := map[byte]int{'K': api.ErrAngle, 'q': api.ErrQubit, 'b': api.ErrBit, 'r': api.ErrVar, 'v': api.ErrRange}
	first := map[byte]int{'K': 16, 'q': 3, 'b': 2, 'r': 4, 'v': 2}
	for number, row := range manual {
		place := 9
		for i, letter := range []byte(row.operands) {
			if bytesOf(letter) == 1 {
				for value := range 256 {
					rest := []byte{byte(number), 0, 0, 0, 0}[:1+widthOf(row.operands)]
					if row.word == "cx" {
						rest[2-i] = byte((value + 1) % 3)
					}
					rest[place-8] = byte(value)
					want := none
					if value >= first[letter] {
						want = fault(codes[letter], place)
					}
					checked(t, row.word, sealed(3, 2, 1, rest...), want)
				}
			}
			place += bytesOf(letter)
		}
	}
}

// widthOf is how many bytes operands have.
func widthOf(operands string) int {
	out := 0
	for _, letter := range []byte(operands) {
		out += bytesOf(letter)
	}
	return out
}

// A number of two bytes is one number, wherever it stands: a may be as great as the
// number of instructions, n as great as can be.
func TestCheckOfWideOperands(t *testing.T) {
	for number, row := range manual {
		if row.operands == "" || !strings.Contains("an", row.operands[len(row.operands)-1:]) {
			continue
		}
		isPlace := strings.HasSuffix(row.operands, "a")
		at := 8 + widthOf(row.operands) - 1
		for _, value := range []int{0, 1, 2, 3, 4, 5, 255, 256, 257, 258, 259, 260, 512, 32767, 32768, 65280, 65534, 65535} {
			rest := []byte{byte(number), 1, 0, 0}[:at-8]
			rest = append(rest, wide(value)...)
			want := none
			if isPlace && value > 3 {
				want = fault(api.ErrRange, at)
			}
			checked(t, row.word, sealed(3, 2, 3, append(rest, 0, 0)...), want)
		}
	}
	halts := slices.Repeat([]byte{0}, 299)
	for _, value := range []int{298, 299, 300, 301, 44, 45, 512} {
		image := []byte(sealed(1, 0, 0, append([]byte{8, byte(value >> 8), byte(value)}, halts...)...))
		image[6], image[7] = 300/256, 300%256
		want := none
		if value > 300 {
			want = fault(api.ErrRange, 9)
		}
		checked(t, "far", resealed(string(image)), want)
	}
}

// The same qubit twice is told at the second operand, if it is a qubit.
func TestCheckOfClones(t *testing.T) {
	for a := range 5 {
		for b := range 5 {
			want := none
			switch {
			case a > 2:
				want = fault(api.ErrQubit, 9)
			case b > 2:
				want = fault(api.ErrQubit, 10)
			case a == b:
				want = fault(api.ErrClone, 10)
			}
			checked(t, "cx", sealed(3, 2, 1, 5, byte(a), byte(b)), want)
		}
	}
	checked(t, "a bit may be taken twice", sealed(1, 1, 1, 12, 0, 0), none)
}

// An image that is cut off lacks bytes, wherever it is cut.
func TestCheckOfImagesThatAreCutOff(t *testing.T) {
	images := []string{bare, allImage}
	for i := range 50 {
		n := noise(i)
		image, _ := wantedImage(n.program(1+n.below(12), n.below(13), n.below(12)))
		images = append(images, image)
	}
	for _, image := range images {
		for length := range len(image) {
			checked(t, "cut off", image[:length], fault(api.ErrText, length))
		}
	}
}

// What is wrong is told ahead of what is missing behind it; a number that is not all
// there is not looked at.
func TestCheckOfWrongImagesThatAreCutOff(t *testing.T) {
	for image, want := range map[string]api.Fault{
		"":                                     fault(api.ErrText, 0),
		"q":                                    fault(api.ErrMagic, 0),
		"QLM1\x00":                             fault(api.ErrQubits, 4),
		"QLM1\x0d":                             fault(api.ErrQubits, 4),
		"QLM1\x01":                             fault(api.ErrText, 5),
		"QLM1\x01\x0d":                         fault(api.ErrBits, 5),
		"QLM1\x01\x00\xff":                     fault(api.ErrText, 7),
		"QLM1\x01\x00\xff\xff":                 fault(api.ErrText, 8),
		"QLM1\x01\x00\x00\x01\x0f":             fault(api.ErrKind, 8),
		"QLM1\x01\x00\x00\x01\x04\x10":         fault(api.ErrAngle, 9),
		"QLM1\x01\x00\x00\x01\x04\x0f":         fault(api.ErrText, 10),
		"QLM1\x01\x00\x00\x01\x05\x01":         fault(api.ErrQubit, 9),
		"QLM1\x01\x01\x00\x01\x09\x01":         fault(api.ErrBit, 9),
		"QLM1\x01\x01\x00\x01\x09\x00\xff":     fault(api.ErrText, 11),
		"QLM1\x01\x01\x00\x01\x0e\x04\xff":     fault(api.ErrVar, 9),
		"QLM1\x01\x01\x00\x01\x08\x00\x02":     fault(api.ErrRange, 9),
		"QLM1\x01\x00\x00\x00\x00\x00\x00":     fault(api.ErrText, 11),
		"QLM1\x01\x00\x00\x01\xac\xf5\x54\xbf": fault(api.ErrKind, 8),
	} {
		checked(t, "cut off", image, want)
	}
}

func TestCheckOfSums(t *testing.T) {
	for _, image := range []string{bare, allImage} {
		from := len(image) - 4
		for at := from; at < len(image); at++ {
			for change := 1; change < 256; change++ {
				wrong := []byte(image)
				wrong[at] ^= byte(change)
				checked(t, "a wrong sum", string(wrong), fault(api.ErrSum, from))
			}
		}
		turned := []byte(image[from:])
		slices.Reverse(turned)
		checked(t, "the lowest byte first", image[:from]+string(turned), fault(api.ErrSum, from))
	}
	checked(t, "a sum that began with 0", "QLM1\x01\x00\x00\x00"+oldSum("QLM1\x01\x00\x00\x00", 0), fault(api.ErrSum, 8))
	checked(t, "a change that no operand tells", strings.Replace(allImage, "\xff\xfe", "\xff\xff", 1), fault(api.ErrSum, len(allImage)-4))
}

// oldSum is the sum that begins with something else.
func oldSum(ahead string, begin uint32) string {
	for _, one := range []byte(ahead) {
		begin = begin*31 + uint32(one)
	}
	return wide(int(begin>>16)) + wide(int(begin&65535))
}

func TestCheckOfBytesBehindTheSum(t *testing.T) {
	for _, image := range []string{bare, allImage} {
		for _, behind := range []string{"\x00", "x", "\n", "\x00\x00\x00\x00", image} {
			checked(t, "bytes behind the sum", image+behind, fault(api.ErrForm, len(image)))
		}
		wrong := image[:len(image)-1] + "?x"
		checked(t, "a wrong sum and bytes behind it", wrong, fault(api.ErrSum, len(image)-4))
	}
	checked(t, "fewer instructions are said than there are", sealed(1, 0, 1, 0, 0), fault(api.ErrSum, 9))
	checked(t, "more instructions are said than there are", sealed(1, 0, 2, 0), fault(api.ErrKind, 9))
}

// An image with everything wrong is mended from the left, and each time the next fault is told.
func TestCheckTellsTheFirstFault(t *testing.T) {
	right := []byte("QLM1\x02\x01\x00\x06" + "\x04\x0f\x01" + "\x05\x01\x00" + "\x0b\x00\x01" + "\x0a\x00\x00\x06" + "\x0e\x03\x00\x06" + "\x00")
	right = append(right, wantedSum(string(right))...)
	image := append(slices.Clone(right), 'x')
	type spot struct {
		at    int
		value byte
		code  int
	}
	spots := []spot{{0, 'x', api.ErrMagic}, {1, 'x', api.ErrMagic}, {2, 'x', api.ErrMagic}, {3, '2', api.ErrMagic}, {4, 13, api.ErrQubits}, {5, 200, api.ErrBits},
		{8, 15, api.ErrKind}, {9, 16, api.ErrAngle}, {10, 2, api.ErrQubit}, {12, 2, api.ErrQubit}, {13, 1, api.ErrClone}, {15, 1, api.ErrBit}, {16, 2, api.ErrRange},
		{18, 9, api.ErrBit}, {20, 7, api.ErrRange}, {22, 4, api.ErrVar}, {23, 1, api.ErrRange}, {25, 255, api.ErrKind}, {29, 'x', api.ErrSum}}
	for _, one := range spots {
		image[one.at] = one.value
	}
	starts := map[int]int{20: 19, 29: 26}
	for _, one := range spots {
		at := one.at
		if from, ok := starts[at]; ok {
			at = from
		}
		checked(t, fmt.Sprintf("byte %d", one.at), string(image), fault(one.code, at))
		image[one.at] = right[one.at]
	}
	checked(t, "bytes behind the sum", string(image), fault(api.ErrForm, 30))
	checked(t, "nothing is wrong", string(image[:30]), none)
}

func TestCheckOfLongImages(t *testing.T) {
	jumps := strings.Repeat("\x08\x80\x00", 33329)
	ahead := "QLM1\x01\x00" + wide(33330) + jumps + "\x00"
	full := ahead + wantedSum(ahead)
	equal(t, "the length", len(full), api.MaxImage)
	checked(t, "as long as can be", full, none)
	checked(t, "a byte too many", full+"x", fault(api.ErrLong, 0))
	checked(t, "a byte too many, and nothing right", strings.Repeat("x", api.MaxImage+1), fault(api.ErrLong, 0))
	checked(t, "nothing right", strings.Repeat("x", api.MaxImage), fault(api.ErrMagic, 0))
	ahead = "QLM1\x01\x00" + wide(33330) + jumps + "\x00\x00"
	checked(t, "an image but for its length", ahead+wantedSum(ahead), fault(api.ErrLong, 0))
	checked(t, "far too long", strings.Repeat("\x00", 1<<24), fault(api.ErrLong, 0))
	ahead = "QLM1\x01\x00\xff\xff" + strings.Repeat("\x00", 65535)
	checked(t, "as many instructions as can be", ahead+wantedSum(ahead), none)
}

// Images that were spoiled, some with the right sum put there again.
func TestCheckOfSpoiledImages(t *testing.T) {
	met := map[int]int{}
	for i := range 60000 {
		n := noise(i)
		image, _ := wantedImage(n.program(1+n.below(12), n.below(13), n.below(8)))
		image = n.spoilBytes(image)
		if n.below(2) == 0 {
			image = resealed(image)
		}
		_, _, _, want := decode(image)
		met[want.Code]++
		if f := mach.Check(image); f != want {
			t.Errorf("Check of %q: %v, want %v", image, f, want)
		}
	}
	for _, code := range []int{0, api.ErrText, api.ErrForm, api.ErrQubits, api.ErrBits, api.ErrKind, api.ErrAngle, api.ErrQubit, api.ErrClone, api.ErrBit, api.ErrVar, api.ErrRange, api.ErrMagic, api.ErrSum} {
		if met[code] < 20 {
			t.Errorf("only %d images with the code %d", met[code], code)
		}
	}
}
