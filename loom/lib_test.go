package loom_test

import (
	"fmt"
	"math"
	"slices"
	"strings"
	"testing"

	"qloom/api"
	"qloom/loom"
	"qloom/lower"
	"qloom/ring"
	"qloom/state"
	"qloom/tongue"
	"qloom/whole"
)

// shelf is the names that Lib knows, with their numbers.
var shelf = []struct {
	name        string
	least, most int
}{{"add", 1, 3}, {"qft", 1, 4}, {"find", 0, 3}, {"send", 0, 15}}

// registers are those of a program, as they are laid down, one after the other.
func registers(t *testing.T, text string) string {
	t.Helper()
	tree, f := tongue.Parse(text)
	if f != none {
		t.Fatalf("Parse of %s: %v", short(text), f)
	}
	var out []string
	for _, item := range tree.Kids {
		switch item.Kind {
		case api.NQubit:
			out = append(out, fmt.Sprintf("qubit %s[%d]", item.Name, item.Kids[0].N))
		case api.NBit:
			out = append(out, fmt.Sprintf("bit %s[%d]", item.Name, item.Kids[0].N))
		}
	}
	return strings.Join(out, ", ")
}

// leaves is what a program leaves, from a basis state.
func leaves(t *testing.T, text string, in int, tape ...int) api.Shot {
	t.Helper()
	shot, f := state.Run(woven(t, text), in, tape)
	if f != none {
		t.Fatalf("%s from %d with %v: %v", short(text), in, tape, f)
	}
	return shot
}

func TestAdd(t *testing.T) {
	for n := 1; n <= 3; n++ {
		text := lib(t, "add", n)
		equal(t, text, registers(t, text), fmt.Sprintf("qubit a[%d], qubit b[%d], qubit c[1]", n, n))
		bound := 1 << n
		for in := range 2 * bound * bound {
			a, b, c := in%bound, in/bound%bound, in/bound/bound
			if a+b >= bound {
				c = 1 - c
			}
			want := slices.Repeat([]string{"0"}, 2*bound*bound)
			want[a+(a+b)%bound*bound+c*bound*bound] = "1"
			equal(t, fmt.Sprint("add ", n, " from ", in), leaves(t, text, in).Amps, want)
		}
	}
}

// halves is a number over the root of two so many times.
func halves(a ring.Num, times int) ring.Num {
	for range times {
		a = a.Mul(ring.Rt())
	}
	return a
}

func TestQft(t *testing.T) {
	for n := 1; n <= 4; n++ {
		text := lib(t, "qft", n)
		equal(t, text, registers(t, text), fmt.Sprintf("qubit q[%d]", n))
		for x := range 1 << n {
			var want []string
			for y := range 1 << n {
				want = append(want, halves(ring.Root(16*x*y>>n), n).Text())
			}
			equal(t, fmt.Sprint("qft ", n, " from ", x), leaves(t, text, x).Amps, want)
		}
	}
}

func TestFind(t *testing.T) {
	for n := range 4 {
		text := lib(t, "find", n)
		equal(t, text, registers(t, text), "qubit q[2]")
		for y, a := range leaves(t, text, 0).Amps {
			number, f := ring.Parse(a)
			equal(t, text, f, none)
			want := ring.Of(whole.Of(0))
			if y == n {
				want = ring.Of(whole.Of(1))
			}
			if !number.Norm().Same(want) {
				t.Errorf("find %d: amplitude %s of %d", n, a, y)
			}
		}
	}
}

func TestSend(t *testing.T) {
	for n := range 16 {
		text := lib(t, "send", n)
		equal(t, text, registers(t, text), "qubit q[3], bit b[2]")
		var meets []string
		for _, op := range woven(t, text).Ops {
			if op.Kind == api.Measure || op.Kind == api.Reset {
				meets = append(meets, fmt.Sprint(op.Kind, op.Q, op.Bit, op.If))
			}
		}
		equal(t, text, meets, []string{fmt.Sprint(api.Measure, 0, 0, []int{}), fmt.Sprint(api.Measure, 1, 1, []int{})})
		for tape := range 4 {
			first, second := tape&1, tape>>1
			shot := leaves(t, text, 0, first, second, 1)
			want := slices.Repeat([]string{"0"}, 8)
			for value, a := range sent(n) {
				want[tape+4*value] = halves(a, 2).Text()
			}
			equal(t, fmt.Sprint("send ", n, " with ", tape), shot.Amps, want)
			equal(t, text, shot.Bits, []int{first, second})
			equal(t, text, shot.Used, 2)
		}
	}
}

// sent are the amplitudes of the state that H, P by n, H make of 0.
func sent(n int) [2]ring.Num {
	one, turned := ring.Root(0), ring.Root(n)
	return [2]ring.Num{halves(one.Add(turned), 2), halves(one.Sub(turned), 2)}
}

func TestFaultsOfLib(t *testing.T) {
	odd := []int{math.MinInt64, -16, -1, 0, 1, 2, 3, 4, 5, 15, 16, 17, 1 << 32, math.MaxInt64}
	for _, name := range []string{"", "sub", "ad", "addd", "Add", "ADD", " add", "add ", "add\x00", "qft4", "finds", "sen", "Lib", "#", "\xff"} {
		for _, n := range odd {
			if text, f := loom.Lib(name, n); text != "" || f != fault(api.ErrName, 0) {
				t.Errorf("Lib of %q and %d: %s, %v", name, n, short(text), f)
			}
		}
	}
	for _, one := range shelf {
		for _, n := range odd {
			want := fault(api.ErrRange, 0)
			if one.least <= n && n <= one.most {
				want = none
			}
			text, f := loom.Lib(one.name, n)
			if f != want || (text == "") != (f != none) {
				t.Errorf("Lib of %s and %d: %s, %v, want %v", one.name, n, short(text), f, want)
			}
		}
	}
}

// What Lib tells can be built, and run by the machine.
func TestImagesOfLib(t *testing.T) {
	t.Parallel()
	for _, one := range shelf {
		for n := one.least; n <= one.most; n++ {
			text := lib(t, one.name, n)
			basic, f := lower.Base(woven(t, text))
			equal(t, text, f, none)
			for _, d := range []api.Device{row(basic.Qubits), star(basic.Qubits, 0), row(basic.Qubits + 1)} {
				means(t, text, d, build(t, text, d))
			}
		}
	}
}

// Adding undone takes away; a transform done twice turns the basis states' order round,
// and done four times it does nothing.
func TestWhatLibDoesIsKnown(t *testing.T) {
	for n := 1; n <= 4; n++ {
		text := lib(t, "qft", n)
		again := text[len(fmt.Sprintf("qubit q[%d];", n)):]
		compared(t, text+again+again+again, fmt.Sprintf("qubit q[%d];", n), true)
		compared(t, text+again, fmt.Sprintf("qubit q[%d];", n), n == 1)
	}
	compared(t, lib(t, "qft", 1), "qubit q[1]; h q[0];", true)
	compared(t, lib(t, "add", 1), "qubit a[1]; qubit b[1]; qubit c[1]; c[0] ^= a[0] & b[0]; b[0] ^= a[0];", true)
}
