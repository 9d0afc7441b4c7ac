package ring_test

import (
	"math/big"
	"strconv"
	"strings"
	"testing"

	"qloom/api"
	"qloom/ring"
	"qloom/whole"
)

// none is the fault of a call that has none.
var none = api.Fault{}

func equal[T comparable](t *testing.T, what string, got, want T) {
	t.Helper()
	if got != want {
		t.Errorf("%.60s: %.200v, want %.200v", what, got, want)
	}
}

func number(t *testing.T, text string) ring.Num {
	t.Helper()
	n, fault := ring.Parse(text)
	if fault != none {
		t.Fatalf("Parse(%.40q): %v", text, fault)
	}
	return n
}

func make8(t *testing.T, e int, cs ...int) ring.Num {
	t.Helper()
	n, fault := ring.Make(cs, e)
	if fault != none {
		t.Fatalf("Make(%v, %d): %v", cs, e, fault)
	}
	return n
}

func long(t *testing.T, text string) whole.Int {
	t.Helper()
	n, fault := whole.Parse(text)
	if fault != none {
		t.Fatalf("whole.Parse(%.40q): %v", text, fault)
	}
	return n
}

func digits(n int) string { return strings.Repeat("7", n) }

// model is a number of the ring in another form: the sum of parts[i] times
// z^i, over 2^down, in any of the ways in which it can be written.
type model struct {
	parts [8]*big.Int
	down  int
}

func noModel() model {
	var out model
	for i := range out.parts {
		out.parts[i] = new(big.Int)
	}
	return out
}

// modelOf reads a text of which each number is one.
func modelOf(text string) model {
	out := noModel()
	sum, power, over := strings.Cut(text, "/")
	if over {
		out.down, _ = strconv.Atoi(power)
	}
	for i, part := range strings.Split(sum, ",") {
		out.parts[i].SetString(part, 10)
	}
	return out
}

func (m model) isNought() bool {
	for _, part := range m.parts {
		if part.Sign() != 0 {
			return false
		}
	}
	return true
}

func (m model) text() string {
	if m.isNought() {
		return "0"
	}
	by := m.down
	for _, part := range m.parts {
		if part.Sign() != 0 {
			by = min(by, int(part.TrailingZeroBits()))
		}
	}
	var parts []string
	for _, part := range m.parts {
		parts = append(parts, new(big.Int).Rsh(part, uint(by)).String())
	}
	for parts[len(parts)-1] == "0" {
		parts = parts[:len(parts)-1]
	}
	out := strings.Join(parts, ",")
	if m.down > by {
		out += "/" + strconv.Itoa(m.down-by)
	}
	return out
}

// plus is m and sign times o.
func (m model) plus(o model, sign int64) model {
	out := noModel()
	out.down = max(m.down, o.down)
	for i := range out.parts {
		a := new(big.Int).Lsh(m.parts[i], uint(out.down-m.down))
		b := new(big.Int).Lsh(o.parts[i], uint(out.down-o.down))
		out.parts[i].Add(a, b.Mul(b, big.NewInt(sign)))
	}
	return out
}

func (m model) times(o model) model {
	out := noModel()
	out.down = m.down + o.down
	for i, a := range m.parts {
		for j, b := range o.parts {
			product := new(big.Int).Mul(a, b)
			if i+j >= 8 {
				product.Neg(product)
			}
			out.parts[(i+j)%8].Add(out.parts[(i+j)%8], product)
		}
	}
	return out
}

func (m model) mirror() model {
	out := noModel()
	out.down = m.down
	out.parts[0].Set(m.parts[0])
	for i := 1; i < 8; i++ {
		out.parts[8-i].Neg(m.parts[i])
	}
	return out
}

// noise is a row of numbers that looks without order, and is the same each time.
type noise uint64

func (n *noise) below(bound int) int {
	*n = *n*6364136223846793005 + 1442695040888963407
	return int(uint64(*n)>>33) % bound
}

// text is a number with some parts of at most that many digits, as Text writes it.
func (n *noise) text(length int) string {
	m := noModel()
	m.down = n.below(6)
	for _, part := range m.parts {
		if n.below(3) == 0 {
			continue
		}
		for range 1 + n.below(length) {
			part.Mul(part, big.NewInt(10)).Add(part, big.NewInt(int64(n.below(10))))
		}
		if n.below(2) == 0 {
			part.Neg(part)
		}
	}
	return m.text()
}

// pool is texts of numbers: short and long, sparse and full, over all kinds of powers.
func pool() []string {
	out := []string{
		"0", "1", "-1", "2", "-6", "0,1", "0,-1", "0,0,0,0,0,0,0,1", "1,0,1", "0,0,1,0,0,0,-1/1", "0,0,1,0,0,0,-1", "1/1", "-1/2", "3/64",
		"1,1,1,1,1,1,1,1/1", "1,0,0,0,1/1", "-1,2,-3,4,-5,6,-7,8/3", "0,1,0,1,0,1,0,1", "1,0,1,0,1,0,1/9",
		"9223372036854775807", "-9223372036854775808", "9223372036854775808,0,-9223372036854775809/63", "0,0,0,0,18446744073709551615/65",
		"1/9999", "-1,1/10000", "0,0,0,3,0,0,0,-5/10000", digits(700), "-" + digits(1000) + ",0,0," + digits(900) + "/10000", "0," + digits(300) + "/1",
		"0,0,0,0,0,0,0," + digits(500) + "/777",
	}
	seed := noise(1)
	for i := range 24 {
		out = append(out, seed.text(1+i*3))
	}
	return out
}
