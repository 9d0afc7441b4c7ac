package ring_test

import (
	"math"
	"math/big"
	"math/cmplx"
	"strconv"
	"strings"
	"testing"

	"qloom/api"
	"qloom/ring"
	"qloom/whole"
)

func TestExamples(t *testing.T) {
	equal(t, "Rt", ring.Rt().Text(), "0,0,1,0,0,0,-1/1")
	equal(t, "Depth of Rt", ring.Rt().Depth(), 1)
	equal(t, "Depth of a quarter", number(t, "1/2").Depth(), 4)
	equal(t, "Root(9)", ring.Root(9).Text(), "0,-1")
	equal(t, "Conj", number(t, "1,2").Conj().Text(), "1,0,0,0,0,0,0,-2")
	equal(t, "Norm", number(t, "1,0,1").Norm().Text(), "2,0,1,0,0,0,-1")
}

func TestTheZeroValueIsNought(t *testing.T) {
	var a ring.Num
	for what, text := range map[string]string{
		"Text": a.Text(), "Turn": a.Turn(5).Text(), "Neg": a.Neg().Text(), "Conj": a.Conj().Text(), "Add": a.Add(a).Text(),
		"Sub": a.Sub(a).Text(), "Mul": a.Mul(a).Text(), "Half": a.Half().Text(), "Norm": a.Norm().Text(),
	} {
		equal(t, what, text, "0")
	}
	one := number(t, "1")
	equal(t, "0 and 1", a.Add(one).Text(), "1")
	equal(t, "0 less 1", a.Sub(one).Text(), "-1")
	equal(t, "1 times 0", one.Mul(a).Text(), "0")
	equal(t, "Zero", a.Zero(), true)
	equal(t, "Same", a.Same(ring.Num{}), true)
	equal(t, "Same as 1", a.Same(one), false)
	equal(t, "Depth", a.Depth(), 0)
	equal(t, "Even", a.Even(), true)
	x, ok := a.Rational()
	equal(t, "Rational", x.Text(), "0")
	equal(t, "Rational", ok, true)
}

func TestMake(t *testing.T) {
	for _, c := range []struct {
		cs   []int
		e    int
		text string
	}{
		{nil, 0, "0"}, {[]int{}, 0, "0"}, {nil, 7, "0"}, {nil, -7, "0"}, {[]int{0, 0, 0}, 5, "0"},
		{[]int{1}, 0, "1"}, {[]int{1}, 1, "1/1"}, {[]int{2}, 1, "1"}, {[]int{4}, 1, "2"}, {[]int{6, -12}, 3, "3,-6/2"}, {[]int{3}, -2, "12"},
		{[]int{0, -1, 0, 0}, 0, "0,-1"}, {[]int{1, 2, 3, 4, 5, 6, 7, 8}, 0, "1,2,3,4,5,6,7,8"}, {[]int{0, 0, 1, 0, 0, 0, -1}, 1, "0,0,1,0,0,0,-1/1"},
		{[]int{math.MinInt64}, 63, "-1"}, {[]int{math.MinInt64}, 64, "-1/1"}, {[]int{math.MaxInt64}, 1, "9223372036854775807/1"},
		{[]int{math.MinInt64, math.MinInt64}, -1, "-18446744073709551616,-18446744073709551616"},
	} {
		n, fault := ring.Make(c.cs, c.e)
		equal(t, c.text, fault, none)
		equal(t, "Make", n.Text(), c.text)
	}
}

// Beyond z^7 the powers come again: z^8 is -1, z^16 is 1.
func TestMakeOfLongLists(t *testing.T) {
	equal(t, "z^8", make8(t, 0, 0, 0, 0, 0, 0, 0, 0, 0, 1).Text(), "-1")
	equal(t, "1 + z^8", make8(t, 0, 1, 0, 0, 0, 0, 0, 0, 0, 1).Text(), "0")
	equal(t, "z^15", make8(t, 0, 0, 0, 0, 0, 0, 0, 0, 0, 0, 0, 0, 0, 0, 0, 0, 1).Text(), "0,0,0,0,0,0,0,-1")
	equal(t, "z^16", make8(t, 0, append(make([]int, 16), 5)...).Text(), "5")
	equal(t, "z^27", make8(t, 1, append(make([]int, 27), 5)...).Text(), "0,0,0,-5/1")
	cs := make([]int, 16*1000+1)
	for i := 0; i < len(cs); i += 16 {
		cs[i] = math.MaxInt64
	}
	want := new(big.Int).Mul(big.NewInt(math.MaxInt64), big.NewInt(1001))
	equal(t, "a great sum", make8(t, 0, cs...).Text(), want.String())
	cs = make([]int, 9)
	cs[8] = math.MinInt64
	equal(t, "the least int, times -1", make8(t, 0, cs...).Text(), "9223372036854775808")
}

func TestMakeAtTheWidestShifts(t *testing.T) {
	up := new(big.Int).Lsh(big.NewInt(3), api.MaxShift).String()
	equal(t, "up", make8(t, -api.MaxShift, 3, 0, -3).Text(), up+",0,-"+up)
	equal(t, "down", make8(t, api.MaxShift, 3).Text(), "3/10000")
	equal(t, "down, and even", make8(t, api.MaxShift, 8, -12).Text(), "2,-3/9998")
	for _, e := range []int{-api.MaxShift - 1, api.MaxShift + 1, math.MinInt64, math.MaxInt64} {
		for _, cs := range [][]int{nil, {0}, {1}, {2, 4}} {
			n, fault := ring.Make(cs, e)
			equal(t, strconv.Itoa(e), fault, api.Fault{Code: api.ErrShift, At: 0})
			equal(t, strconv.Itoa(e), n.Text(), "0")
		}
	}
}

func TestMakeOnlyReadsItsList(t *testing.T) {
	cs := []int{4, 8, -12}
	n := make8(t, 3, cs...)
	equal(t, "first", cs[0], 4)
	cs[0], cs[1], cs[2] = 1, 1, 1
	equal(t, "kept", n.Text(), "1,2,-3/1")
}

// rootText is z^k, by what the document says of z.
func rootText(k int) string {
	k = (k%16 + 16) % 16
	one := "1"
	if k >= 8 {
		one = "-1"
	}
	return strings.Repeat("0,", k%8) + one
}

func TestRoot(t *testing.T) {
	for k := -50; k <= 50; k++ {
		equal(t, strconv.Itoa(k), ring.Root(k).Text(), rootText(k))
	}
	for _, k := range []int{math.MinInt64, math.MinInt64 + 3, math.MinInt64 + 15, math.MaxInt64, math.MaxInt64 - 2, math.MaxInt64 - 7} {
		equal(t, strconv.Itoa(k), ring.Root(k).Text(), rootText(k))
	}
}

func TestTurn(t *testing.T) {
	ks := []int{math.MinInt64, math.MinInt64 + 5, math.MaxInt64, math.MaxInt64 - 5, 1000, -1000}
	for k := -20; k <= 20; k++ {
		ks = append(ks, k)
	}
	for _, text := range pool() {
		for _, k := range ks {
			equal(t, "Turn", number(t, text).Turn(k).Text(), modelOf(text).times(modelOf(rootText(k))).text())
		}
	}
}

func TestOf(t *testing.T) {
	for _, text := range []string{"0", "1", "-1", "2", "48", "-9223372036854775808", digits(900), "-" + digits(1000)} {
		equal(t, "Of", ring.Of(long(t, text)).Text(), text)
	}
	equal(t, "the zero value", ring.Of(whole.Int{}).Text(), "0")
}

func TestOneNumber(t *testing.T) {
	half := modelOf("0,0,1,0,0,0,-1/1")
	for _, text := range pool() {
		a, m := number(t, text), modelOf(text)
		equal(t, "Text", a.Text(), text)
		equal(t, "Neg", a.Neg().Text(), noModel().plus(m, -1).text())
		equal(t, "Conj", a.Conj().Text(), m.mirror().text())
		equal(t, "Conj twice", a.Conj().Conj().Text(), text)
		equal(t, "Half", a.Half().Text(), m.times(half).text())
		equal(t, "Norm", a.Norm().Text(), m.times(m.mirror()).text())
		equal(t, "Zero", a.Zero(), text == "0")
		equal(t, "less itself", a.Sub(a).Text(), "0")
		equal(t, "and its negative", a.Add(a.Neg()).Zero(), true)
		equal(t, "behind all", a.Text(), text)
	}
}

func TestTwoNumbers(t *testing.T) {
	texts := pool()
	for _, s := range texts {
		a, m := number(t, s), modelOf(s)
		for _, u := range texts {
			b, o := number(t, u), modelOf(u)
			equal(t, "Add", a.Add(b).Text(), m.plus(o, 1).text())
			equal(t, "Sub", a.Sub(b).Text(), m.plus(o, -1).text())
			equal(t, "Mul", a.Mul(b).Text(), m.times(o).text())
			equal(t, "Same", a.Same(b), s == u)
			equal(t, "a, behind all", a.Text(), s)
			equal(t, "b, behind all", b.Text(), u)
		}
	}
}

// Texts that differ in one part or in the power alone.
func TestSame(t *testing.T) {
	base := "1,1,1,1,1,1,1,1/3"
	for i := range 8 {
		other := []byte(base)
		other[2*i] = '2'
		equal(t, string(other), number(t, base).Same(number(t, string(other))), false)
		equal(t, string(other), number(t, string(other)).Same(number(t, base)), false)
	}
	for _, other := range []string{"1,1,1,1,1,1,1,1", "1,1,1,1,1,1,1,1/2", "-1,-1,-1,-1,-1,-1,-1,-1/3", "0"} {
		equal(t, other, number(t, base).Same(number(t, other)), false)
	}
	equal(t, "come by in another way", number(t, base).Mul(number(t, "2")).Same(number(t, "1,1,1,1,1,1,1,1/2")), true)
	equal(t, "of long parts", number(t, digits(999)).Same(ring.Of(long(t, digits(999)))), true)
}

// value is about the number that a text means: z is a turn by a sixteenth.
func value(text string) complex128 {
	m := modelOf(text)
	var out complex128
	for i, part := range m.parts {
		size, _ := new(big.Float).SetInt(part).Float64()
		out += cmplx.Rect(size, 2*math.Pi*float64(i)/16)
	}
	return out / complex(math.Ldexp(1, m.down), 0)
}

func TestNumbersMeanTurns(t *testing.T) {
	near := func(what string, got ring.Num, want complex128) {
		t.Helper()
		if cmplx.Abs(value(got.Text())-want) > 1e-9*(1+cmplx.Abs(want)) {
			t.Errorf("%s: %v, want about %v", what, got.Text(), want)
		}
	}
	near("Rt", ring.Rt(), complex(math.Sqrt(0.5), 0))
	texts := []string{"0,0,1,0,0,0,-1/1", "1,-2,3,-4,5,-6,7,-8/2", "0,1", "3/5", "-1,0,0,7,0,0,1/1"}
	for _, s := range texts {
		a, x := number(t, s), value(s)
		near("Conj", a.Conj(), cmplx.Conj(x))
		near("Half", a.Half(), x*complex(math.Sqrt(0.5), 0))
		near("Norm", a.Norm(), complex(real(x)*real(x)+imag(x)*imag(x), 0))
		near("Turn", a.Turn(3), x*cmplx.Rect(1, 2*math.Pi*3/16))
		for _, u := range texts {
			b, y := number(t, u), value(u)
			near("Add", a.Add(b), x+y)
			near("Sub", a.Sub(b), x-y)
			near("Mul", a.Mul(b), x*y)
		}
	}
}

func TestHalf(t *testing.T) {
	a := number(t, "1")
	for i, want := range []string{"0,0,1,0,0,0,-1/1", "1/1", "0,0,1,0,0,0,-1/2", "1/2"} {
		a = a.Half()
		equal(t, strconv.Itoa(i), a.Text(), want)
	}
	equal(t, "of the root of two", number(t, "0,0,1,0,0,0,-1").Half().Text(), "1")
	equal(t, "of 2", number(t, "2").Half().Text(), "0,0,1,0,0,0,-1")
	equal(t, "as times Rt", number(t, "3,1,4,1,5,9,2,6/5").Half().Same(number(t, "3,1,4,1,5,9,2,6/5").Mul(ring.Rt())), true)
}

func TestNormIsReal(t *testing.T) {
	for _, text := range pool() {
		norm := number(t, text).Norm()
		equal(t, "its own mirror", norm.Same(norm.Conj()), true)
	}
	for k := range 16 {
		equal(t, "of a turn", ring.Root(k).Norm().Text(), "1")
	}
	equal(t, "of Rt", ring.Rt().Norm().Text(), "1/1")
}

func TestEven(t *testing.T) {
	for i := range 8 {
		equal(t, "one root", ring.Root(i).Even(), i%2 == 0)
		equal(t, "over a power", ring.Root(i).Half().Half().Half().Even(), i%2 == 0)
		equal(t, "among others", number(t, "1,0,3,0,5,0,7/2").Add(ring.Root(i)).Even(), i%2 == 0)
	}
	equal(t, "long parts", number(t, "0,0,"+digits(400)).Even(), true)
	equal(t, "long parts", number(t, "0,0,0,"+digits(400)).Even(), false)
	equal(t, "even multiples", number(t, "0,2").Even(), false)
}

func TestRational(t *testing.T) {
	for text, want := range map[string]string{
		"0": "0", "1": "1", "-7": "-7", "1/1": "1/2", "-3/2": "-3/4", "5/10": "5/1024", digits(800): digits(800), "12": "12",
		"-" + digits(301) + "/7": "-" + digits(301) + "/128",
		"1/10000":                "1/" + new(big.Int).Lsh(big.NewInt(1), 10000).String(),
		"-9223372036854775808":   "-9223372036854775808",
	} {
		x, ok := number(t, text).Rational()
		equal(t, text, ok, true)
		equal(t, text, x.Text(), want)
	}
	for i := 1; i < 8; i++ {
		for _, a := range []ring.Num{ring.Root(i), ring.Root(i + 8), ring.Root(i).Add(number(t, "3/2")), ring.Root(i).Mul(number(t, digits(50)))} {
			x, ok := a.Rational()
			equal(t, a.Text(), ok, false)
			equal(t, a.Text(), x.Text(), "0")
		}
	}
	_, ok := ring.Rt().Rational()
	equal(t, "Rt", ok, false)
	x, ok := ring.Rt().Mul(ring.Rt()).Rational()
	equal(t, "Rt times Rt", x.Text(), "1/2")
	equal(t, "Rt times Rt", ok, true)
}

// depthByTrying multiplies by the root of two till nothing is below the bar.
func depthByTrying(text string) int {
	m, root := modelOf(text), modelOf("0,0,1,0,0,0,-1")
	for n := 0; ; n++ {
		if !strings.Contains(m.text(), "/") {
			return n
		}
		m = m.times(root)
	}
}

func TestDepth(t *testing.T) {
	for text, want := range map[string]int{
		"0": 0, "1": 0, "2": 0, digits(600): 0, "0,0,1,0,0,0,-1": 0, "1/1": 2, "1/2": 4, "1/10000": 20000, "0,0,1,0,0,0,-1/10000": 19999,
		"1,0,0,0,1/1": 1, "1,0,0,0,1/7": 13, "1,0,0,0,2/7": 14, "1,1,1,1,1,1,1,1/1": 1, "2,1,0,0,0,-3/1": 1, "1,1,0,0,1/1": 2,
		digits(600) + ",0,0,0,1/3": 5, digits(600) + ",0,0,0,2/3": 6,
	} {
		equal(t, text, number(t, text).Depth(), want)
	}
	seed := noise(7)
	for range 300 {
		text := seed.text(2)
		equal(t, text, number(t, text).Depth(), depthByTrying(text))
	}
	// Each way in which parts can be even or odd, over a half and a quarter.
	for kind := 1; kind < 256; kind++ {
		cs := make([]int, 8)
		for i := range cs {
			cs[i] = kind >> i & 1
		}
		for e := 1; e <= 2; e++ {
			a := make8(t, e, cs...)
			equal(t, a.Text(), a.Depth(), depthByTrying(a.Text()))
		}
	}
}
