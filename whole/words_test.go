package whole

import (
	"math/big"
	"testing"
)

func bigOf(words []uint64) *big.Int {
	out := new(big.Int)
	for i := len(words) - 1; i >= 0; i-- {
		out.Lsh(out, 64).Or(out, new(big.Int).SetUint64(words[i]))
	}
	return out
}

// edges are words close to where carries, borrows and guesses change.
func edges() []uint64 {
	return []uint64{0, 1, 1 << 63, 1<<63 - 1, 1<<64 - 1, 2, 1<<63 + 1, 1<<64 - 2}
}

// eachRow goes through all rows of that many words.
func eachRow(words []uint64, length int, visit func([]uint64)) {
	if length == 0 {
		visit(nil)
		return
	}
	eachRow(words, length-1, func(rest []uint64) {
		for _, word := range words {
			visit(append([]uint64{word}, rest...))
		}
	})
}

// A guess that is one too great comes about once in 2^63 times by chance.
func TestDivisionWithWrongGuesses(t *testing.T) {
	for _, c := range []struct {
		words         []uint64
		first, second int
	}{
		{edges(), 2, 1}, {edges(), 3, 2}, {edges(), 4, 2}, {edges(), 3, 3}, {edges()[:5], 4, 3}, {edges()[:5], 4, 4},
	} {
		eachRow(c.words, c.first, func(a []uint64) {
			eachRow(c.words, c.second, func(b []uint64) {
				if b[len(b)-1] != 0 {
					checkDivision(t, trim(a), b)
				}
			})
		})
	}
}

func checkDivision(t *testing.T, a, b []uint64) {
	t.Helper()
	q, r := divWords(a, b)
	wantQ, wantR := new(big.Int).QuoRem(bigOf(a), bigOf(b), new(big.Int))
	if bigOf(q).Cmp(wantQ) != 0 || bigOf(r).Cmp(wantR) != 0 {
		t.Fatalf("%x over %x: %x and %x", a, b, q, r)
	}
}

func TestSumsWithLongCarries(t *testing.T) {
	eachRow(edges(), 3, func(a []uint64) {
		eachRow(edges(), 2, func(b []uint64) {
			a, b := trim(a), trim(b)
			sum := addWords(a, b)
			if bigOf(sum).Cmp(new(big.Int).Add(bigOf(a), bigOf(b))) != 0 {
				t.Fatalf("%x and %x: %x", a, b, sum)
			}
			if rest := subWords(sum, b); compareWords(rest, a) != 0 {
				t.Fatalf("%x less %x: %x", sum, b, rest)
			}
			if product := mulWords(a, b); bigOf(product).Cmp(new(big.Int).Mul(bigOf(a), bigOf(b))) != 0 {
				t.Fatalf("%x times %x: %x", a, b, product)
			}
		})
	})
}

// checkKept looks whether a number is kept in its one way, in words that cannot grow.
func checkKept(t *testing.T, what string, a Int) {
	t.Helper()
	if a.long == nil {
		return
	}
	n := len(a.long)
	if n == 0 || a.long[n-1] == 0 || a.small != 1 && a.small != -1 {
		t.Errorf("%s: %d words, sign %d", what, n, a.small)
	}
	if size := a.long[0]; n == 1 && (size < 1<<63 || size == 1<<63 && a.small < 0) {
		t.Errorf("%s: an int would hold %d", what, size)
	}
	if cap(a.long) != n {
		t.Errorf("%s: room for %d words more", what, cap(a.long)-n)
	}
}

func TestNumbersCannotGrow(t *testing.T) {
	long, _ := Of(3).Shift(5000)
	near := long.Add(Of(1))
	up, _ := long.Shift(3)
	down, _ := near.Neg().Shift(-4900)
	q, r, _ := near.Mul(near).Div(long)
	read, _ := Parse("-123456789012345678901234567890")
	_, shared, _ := long.Div(up)
	for what, a := range map[string]Int{
		"sum": near, "difference": near.Sub(long), "product": near.Mul(long), "opposite": near.Neg(), "up": up, "down": down,
		"quotient": q, "rest": r, "read": read, "gcd": Gcd(long, up), "a rest that is what was divided": shared,
	} {
		checkKept(t, what, a)
	}
}

// What is appended to a front must not be seen in the number that it is a front of.
func TestFrontsDoNotReachWhatStandsBehind(t *testing.T) {
	words := []uint64{5, 0, 7}
	low := front(words, 2)
	if len(low) != 1 || &low[0] != &words[0] {
		t.Fatalf("no front: %v", low)
	}
	if low = append(low, 9); words[1] != 0 || words[2] != 7 {
		t.Errorf("%v was written over", words)
	}
}
