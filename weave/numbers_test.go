package weave_test

import (
	"fmt"
	"testing"

	"qloom/api"
	"qloom/whole"
)

func TestNumbers(t *testing.T) {
	items := "const k = 7; const minus = -3; qubit q[3]; bit b[5]; "
	for _, c := range []struct {
		expr string
		want int
	}{
		{"0", 0}, {"999999999", 999999999}, {"k", 7}, {"minus", -3}, {"size(q)", 3}, {"size(b)", 5}, {"-k", -7}, {"--k", 7}, {"-minus", 3},
		{"1 + 2 * 3", 7}, {"(1 + 2) * 3", 9}, {"10 - 3 - 2", 5}, {"2 * 3 - 4 * 5", -14}, {"k + size(q) - minus", 13},
		{"100 / 7 / 2", 7}, {"100 % 7 * 3", 6}, {"7 / 2 * 2", 6}, {"2 ** 3 ** 2", 512}, {"-2 ** 2", -4}, {"(-2) ** 2", 4}, {"2 ** 0", 1}, {"0 ** 0", 1}, {"0 ** 5", 0},
		{"1 == 1", 1}, {"1 == 2", 0}, {"1 != 1", 0}, {"1 != 2", 1}, {"1 < 2", 1}, {"2 < 2", 0}, {"3 < 2", 0}, {"1 <= 2", 1}, {"2 <= 2", 1}, {"3 <= 2", 0},
		{"1 > 2", 0}, {"2 > 2", 0}, {"3 > 2", 1}, {"1 >= 2", 0}, {"2 >= 2", 1}, {"3 >= 2", 1}, {"-1 < 0", 1}, {"0 > -1", 1},
		{"(1 < 2) + (3 > 2) * 5", 6}, {"(k == 7) - (k == 8)", 1}, {"-(1 == 1)", -1}, {"(1 < 2) == (2 < 3)", 1},
	} {
		comesTo(t, items, c.expr, c.want)
	}
}

// Quotients and rests are those of layer 1.
func TestDivisionIsAsThatOfWholeNumbers(t *testing.T) {
	numbers := []int{-api.MaxWhole, -999999999, -8, -7, -6, -5, -4, -3, -2, -1, 0, 1, 2, 3, 4, 5, 6, 7, 8, 999999999, api.MaxWhole - 1, api.MaxWhole}
	text := "qubit q[1]; "
	for _, a := range numbers {
		for _, b := range numbers {
			if b == 0 {
				refused(t, "const a = "+written(a)+" $/ 0;", api.ErrZero)
				refused(t, "const a = "+written(a)+" $% 0;", api.ErrZero)
				continue
			}
			q, r, _ := whole.Of(a).Div(whole.Of(b))
			quotient, _ := q.Small()
			rest, _ := r.Small()
			text += fmt.Sprintf("when %s / %s != %s { x q[0]; } ", written(a), written(b), written(quotient))
			text += fmt.Sprintf("when %s %% %s != %s { x q[0]; } ", written(a), written(b), written(rest))
			if len(text) > api.MaxLines/2 {
				equal(t, text, len(woven(t, text).Ops), 0)
				text = "qubit q[1]; "
			}
		}
	}
	equal(t, text, len(woven(t, text).Ops), 0)
	comesTo(t, "", "-7 / 2", -4)
	comesTo(t, "", "-7 % 2", 1)
	comesTo(t, "", "-7 / (-2)", 4)
	comesTo(t, "", "-7 % (-2)", 1)
	comesTo(t, "", "7 / (-2)", -3)
}

// Of each operator: its greatest and least numbers, and what is just beyond.
func TestRangeOfNumbers(t *testing.T) {
	items := "const most = 2 ** 30; const least = -most; "
	for _, c := range []struct {
		expr string
		want int
	}{
		{"most", api.MaxWhole}, {"least", -api.MaxWhole}, {"-least", api.MaxWhole}, {"-most", -api.MaxWhole}, {"most - 1 + 1", api.MaxWhole}, {"least + 1 - 1", -api.MaxWhole},
		{"most + least", 0}, {"most - most", 0}, {"least - least", 0}, {"most * 1", api.MaxWhole}, {"most * -1", -api.MaxWhole}, {"least * -1", api.MaxWhole}, {"32768 * 32768", api.MaxWhole},
		{"32768 * -32768", -api.MaxWhole}, {"most * 0", 0}, {"most / 1", api.MaxWhole}, {"least / 1", -api.MaxWhole}, {"least / -1", api.MaxWhole}, {"most / -1", -api.MaxWhole},
		{"most % most", 0}, {"least % most", 0}, {"-1 % most", api.MaxWhole - 1}, {"-1 / most", -1}, {"1 / most", 0}, {"most ** 1", api.MaxWhole}, {"least ** 1", -api.MaxWhole}, {"most ** 0", 1},
		{"(-2) ** 30", api.MaxWhole}, {"4 ** 15", api.MaxWhole}, {"32768 ** 2", api.MaxWhole}, {"(-1024) ** 3", -api.MaxWhole}, {"1024 ** 3", api.MaxWhole}, {"3 ** 18", 387420489}, {"(-3) ** 18", 387420489}, {"(-3) ** 17", -129140163},
		{"1 ** most", 1}, {"(-1) ** most", 1}, {"(-1) ** (most - 1)", -1}, {"0 ** most", 0}, {"0 ** (most - 1)", 0}, {"(-1) ** 999999999", -1}, {"1 ** 31", 1}, {"(-1) ** 31", -1}, {"(-1) ** 32", 1}, {"(-1) ** 33", -1}, {"(-1) ** 34", 1},
		{"most == least", 0}, {"most > least", 1}, {"least <= least", 1},
	} {
		comesTo(t, items, c.expr, c.want)
	}
	for _, marked := range []string{
		"most $+ 1", "1 $+ most", "least $- 1", "least $+ -1", "most $+ most", "least $+ least", "most $- least", "least $- most", "0 - most $- 1", "most $* 2", "most $* most", "least $* least", "least $* most", "2 $* least", "32768 $* 32769",
		"2 $** 31", "(-2) $** 31", "32769 $** 2", "3 $** 19", "(-3) $** 19", "4 $** 16", "1025 $** 3", "most $** 2", "least $** 2", "least $** 3", "2 $** most", "most $** most", "least $** (most - 1)", "(-2) $** 32", "(-2) $** 33", "2 $** 62", "2 $** 63", "2 $** 64", "2 $** 65", "(-2) $** 63", "(-2) $** 64", "65536 $** 4", "3 $** 999999999",
		"2 $** -1", "2 $** least", "1 $** -1", "0 $** -1", "(-1) $** -2", "2 $** (0 - 1)",
	} {
		refused(t, items+"const value = "+marked+";", api.ErrRange)
	}
}

func TestFaultsOfNumbers(t *testing.T) {
	items := "qubit q[2]; bit b[2]; const k = 1; gate g a { } "
	for _, c := range []struct {
		marked string
		code   int
	}{
		{"$nobody", api.ErrName}, {"$Q", api.ErrName}, {"$size(nobody)", api.ErrName}, {"-$nobody", api.ErrName},
		{"$q", api.ErrType}, {"$b", api.ErrType}, {"$g", api.ErrType}, {"$x", api.ErrType}, {"$phase", api.ErrType}, {"$size(k)", api.ErrType}, {"$size(g)", api.ErrType}, {"$size(swap)", api.ErrType},
		{"1 $/ 0", api.ErrZero}, {"1 $% 0", api.ErrZero}, {"0 $/ 0", api.ErrZero}, {"k $/ (k - k)", api.ErrZero}, {"-(5 $% (k == 2))", api.ErrZero},
		// Operands from the left, and these ahead of the operator itself.
		{"$nobody + q", api.ErrName}, {"$q + nobody", api.ErrType}, {"1 $/ 0 + nobody", api.ErrZero}, {"$nobody / 0", api.ErrName}, {"2 ** 30 * ($nobody + 1)", api.ErrName}, {"(2 $** 31) / 0", api.ErrRange}, {"0 / (1 $/ 0)", api.ErrZero},
		{"1 / 0 ** $nobody", api.ErrName}, {"(1 $/ 0) ** nobody", api.ErrZero}, {"2 ** -$nobody", api.ErrName}, {"($nobody == q) < (1 / 0)", api.ErrName}, {"1 == 1 $/ 0", api.ErrZero}, {"(2 ** 30 $+ 1) - 5", api.ErrRange},
		{"0 * (1 $/ 0)", api.ErrZero}, {"(1 == 1) + (1 $% 0)", api.ErrZero},
	} {
		for _, place := range []string{"const value = %s;", "when %s { }", "for i in %s .. nobody { }", "for i in 0 .. %s { }", "p(%s) nobody;", "pow(%s) @ x nobody;", "x q[%s];", "reset q[%s .. nobody];", "reset q[9 .. %s];", "qubit r[%s];", "bit c[%s];", "q[0] ^= q[%s];"} {
			refused(t, items+fmt.Sprintf(place, c.marked), c.code)
		}
	}
}

func TestSizes(t *testing.T) {
	comesTo(t, "qubit a[1]; bit c[12]; ", "size(a) + 100 * size(c)", 1201)
	// Of a wire with brackets: as many as the reference names.
	gate := "qubit q[4]; gate g a[], b { p(size(a)) b; } "
	does(t, gate+"g q[0 .. 3], q[3];", "qubits 4 bits 0", "p 3 3")
	does(t, gate+"g q[2 .. 3], q[3];", "qubits 4 bits 0", "p 1 3")
	does(t, gate+"gate outer a[], b { g a[1 .. size(a)], b; } outer q[0 .. 3], q[3];", "qubits 4 bits 0", "p 2 3")
	does(t, "qubit q[4]; qubit r[1]; gate g a[], b { p(size(a)) b; } g q, r[0];", "qubits 5 bits 0", "p 4 4")
	// A wire without brackets has none, nor a number or a variable.
	refused(t, "qubit q[1]; gate g a { p($size(a)) a; } g q[0];", api.ErrType)
	refused(t, "qubit q[1]; gate g(n) a { p($size(n)) a; } g(1) q[0];", api.ErrType)
	refused(t, "qubit q[1]; for i in 0 .. 1 { p($size(i)) q[0]; }", api.ErrType)
	refused(t, "qubit q[1]; gate g a { p($size(q)) a; } g q[0];", api.ErrName)
	refused(t, "qubit q[1]; bit b[1]; gate g a { p($size(b)) a; } g q[0];", api.ErrName)
}
