package weave_test

import (
	"fmt"
	"strings"
	"testing"

	"qloom/api"
	"qloom/weave"
)

// lettered is a text with letters behind marks taken out of it, and where each stands.
func lettered(text string) (string, map[rune]int) {
	places := map[rune]int{}
	for {
		at := strings.Index(text, mark)
		if at < 0 {
			return text, places
		}
		places[rune(text[at+1])] = at
		text = text[:at] + text[at+2:]
	}
}

// Of each statement, at which place each of its steps is taken, one after the other:
// with a step too few, that one is refused there.
func TestStepsOfStatements(t *testing.T) {
	items := "qubit q[4]; bit b[4]; gate none w { } gate one w { $zh w; } gate two w { $yh w; $xone w; } gate turn(n) w { $wwhen n { $vturn(n - 1) w; } } "
	for _, c := range []struct{ text, steps string }{
		{"$ax q[0];", "aa"}, {"$aphase(1);", "aa"}, {"$aswap q[0], q[1];", "aa"}, {"$ay q[0];", "aa"}, {"$actrl @ inv @ t q[0], q[1];", "aa"},
		{"$apow(0) @ x q[0];", "a"}, {"$apow(1) @ x q[0];", "aa"}, {"$apow(5) @ x q[0];", "aaaaaa"}, {"$apow(-5) @ t q[0];", "aaaaaa"}, {"$apow(2) @ inv @ pow(-3) @ p(0) q[0];", "aaaaaaa"},
		{"$anone q[0];", "aa"}, {"$apow(3) @ none q[0];", "aaaa"}, {"$apow(0) @ none q[0];", "a"}, {"$aone q[0];", "aazz"}, {"$apow(2) @ one q[0];", "aazzazz"}, {"$apow(-2) @ one q[0];", "aazzazz"}, {"$ainv @ one q[0];", "aazz"}, {"$actrl @ one q[1], q[0];", "aazz"},
		{"$atwo q[0];", "aayyxxzz"}, {"$ainv @ two q[0];", "aayyxxzz"}, {"$apow(-2) @ two q[0];", "aayyxxzzayyxxzz"}, {"$aturn(0) q[0];", "aaw"}, {"$aturn(2) q[0];", "aawvvwvvw"},
		{"$afor i in 0 .. 0 { }", "a"}, {"$afor i in 5 .. 1 { $bx q[0]; }", "a"}, {"$afor i in 0 .. 3 { }", "aaaa"}, {"$afor i in 0 .. 2 { $bx q[0]; }", "aabbabb"}, {"$afor i in 0 .. 2 { $bfor j in 0 .. i { $cwhen 1 { } } }", "aababbc"},
		{"$awhen 0 { $bx q[0]; }", "a"}, {"$awhen 1 { }", "a"}, {"$awhen 1 { $bx q[0]; $ch q[0]; }", "abbcc"},
		{"$aif b[0] { }", "a"}, {"$aif b[0] { $bx q[0]; }", "abb"}, {"$aif b[0] { $bx q[0]; } else { $cmeasure q[0] -> b[1]; $dh q[0]; }", "abbccdd"}, {"$aif !b[0] { } else { $bif b[0] { $cx q[0]; } }", "abcc"},
		{"$ameasure q[0] -> b[0];", "aa"}, {"$ameasure q -> b;", "aaaaa"}, {"$ameasure q[0 .. 2] -> b[1 .. 3];", "aaa"}, {"$areset q;", "aaaaa"}, {"$areset q[1];", "aa"}, {"$areset q[1 .. 2];", "aa"},
		{"$awithin { } apply { }", "a"}, {"$awithin { $bx q[0]; } apply { }", "abbaa"}, {"$awithin { $bx q[0]; } apply { $ch q[0]; }", "abbccaa"}, {"$awithin { } apply { $bx q[0]; }", "abb"},
		{"$awithin { $bpow(3) @ x q[0]; } apply { $creset q; }", "abbbbcccccaaaa"}, {"$awithin { $bwithin { $cx q[0]; } apply { } } apply { $dwhen 0 { } }", "abccbbdaaaaa"}, {"$awithin { $bwhen 0 { } } apply { $cwithin { $dx q[0]; } apply { } }", "abcddcca"},
		{"$awithin { $bone q[0]; } apply { $ctwo q[0]; }", "abbzzccyyxxzzaaaa"},
		{"$aq[3] ^= 0;", "a"}, {"$aq[3] ^= 1;", "aa"}, {"$aq[3] ^= q[0];", "aa"}, {"$aq[3] ^= !q[0];", "aaa"}, {"$aq[3] ^= q[0] | q[1];", "aaaa"}, {"$aq[3] ^= q[0] | q[1] | q[2];", "aaaaaaaa"}, {"$aq[3] ^= q[0] & q[1] & q[2];", "aa"}, {"$aq[3] ^= q[0] ^ q[0];", "a"}, {"$aq[3] ^= !(q[0] | q[1]) ^ q[0] & q[1];", "aaaa"},
		{"$ax q[0]; $bx q[0];", "aabb"}, {"const k = 1; $ax q[0]; gate other a { } $bother q[0];", "aabb"},
	} {
		text, _ := lettered(items + idle(api.MaxSteps-len(c.steps)) + c.text)
		if _, f := weave.Expand(parsed(t, text)); f != none {
			t.Errorf("%s has more than %d steps: %v", c.text, len(c.steps), f)
		}
		for i, letter := range c.steps {
			text, places := lettered(items + idle(api.MaxSteps-i) + c.text)
			refusedAt(t, text, api.ErrSteps, places[letter])
		}
	}
}

// Items that are no statements take none.
func TestItemsTakeNoSteps(t *testing.T) {
	var items strings.Builder
	for i := range 1000 {
		fmt.Fprintf(&items, "const k%d = 1; gate g%d a { }\n", i, i)
	}
	woven(t, "qubit q[1]; bit b[1]; "+items.String()+idle(api.MaxSteps))
	refused(t, "qubit q[1]; bit b[1]; "+items.String()+idle(api.MaxSteps)+"$x q[0];", api.ErrSteps)
}

// The step that a statement takes when it is come to comes ahead of its own faults.
func TestStepsComeFirst(t *testing.T) {
	for _, statement := range []string{"$nobody;", "$x q;", "$for i in nobody .. 1 { }", "$when 1 / 0 { }", "$if nobody { }", "$measure q -> q;", "$reset nobody;", "$within { nobody; } apply { }", "$nobody ^= 1;", "$q[0] ^= " + strings.Repeat("!", 300) + "1;"} {
		refused(t, "qubit q[1]; "+idle(api.MaxSteps)+statement, api.ErrSteps)
	}
	refused(t, "qubit q[1]; bit b[1]; gate g a { $reset a; } "+idle(api.MaxSteps-2)+"g q[0];", api.ErrSteps)
	refused(t, "qubit q[1]; bit b[1]; gate g a { $reset a; } "+idle(api.MaxSteps-3)+"g q[0];", api.ErrUnitary)
	// Its other steps come behind its faults, and ahead of what is done in them.
	refused(t, "qubit q[1]; "+idle(api.MaxSteps-1)+"x $q;", api.ErrType)
	refused(t, "qubit q[1]; "+idle(api.MaxSteps-1)+"swap q[0], $q[0];", api.ErrClone)
	refused(t, "qubit q[2]; bit b[1]; "+idle(api.MaxSteps-1)+"$measure q -> b;", api.ErrSize)
	refused(t, "qubit q[2]; bit b[2]; "+idle(api.MaxSteps-2)+"if b[0] { measure q -> $b; }", api.ErrBit)
	refused(t, "qubit q[2]; "+idle(api.MaxSteps-1)+"q[0] ^= q[1] & $q[0];", api.ErrClone)
	refused(t, "qubit q[1]; gate g a { nobody; } "+idle(api.MaxSteps-1)+"$g q[0];", api.ErrSteps)
	refused(t, "qubit q[1]; "+idle(api.MaxSteps-1)+"$for i in 0 .. 1 { nobody; }", api.ErrSteps)
	refused(t, "qubit q[1]; "+idle(api.MaxSteps-3)+"$within { x q[0]; } apply { } nobody;", api.ErrSteps)
	// That there is no qubit is told at the end.
	refused(t, "$"+idle(api.MaxSteps+1), api.ErrSteps)
}

// However often a thing is to be done, it ends.
func TestStepsBeyondAllBounds(t *testing.T) {
	for _, text := range []string{
		"$pow(2 ** 30) @ x q[0];", "$pow(-(2 ** 30)) @ x q[0];", "$pow(2 ** 30) @ none q[0];", "$inv @ pow(2 ** 30) @ none q[0];", "$pow(2 ** 30) @ phase(2 ** 30);", "$pow(2 ** 30) @ p(2 ** 30) q[0];", "$pow(1500) @ x q[0];", "$pow(1500) @ swap q[0], q[1];", "$pow(-1500) @ t q[0];",
		"$for i in -(2 ** 30) .. 2 ** 30 { }", "$for i in 0 .. 1500 { }", "$for i in 2 ** 30 - 1500 .. 2 ** 30 { }",
	} {
		refused(t, "qubit q[2]; gate none a { } "+text, api.ErrSteps)
	}
	for _, text := range []string{"$pow(1499) @ x q[0];", "$pow(-1499) @ swap q[0], q[1];", "$pow(1499) @ none q[0];", "$for i in 0 .. 1499 { }", "$for i in 2 ** 30 - 1499 .. 2 ** 30 { }"} {
		woven(t, "qubit q[2]; gate none a { } "+unmarked(text))
		refused(t, "qubit q[2]; gate none a { } when 0 { } "+text, api.ErrSteps)
	}
}
