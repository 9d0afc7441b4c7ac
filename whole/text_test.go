package whole_test

import (
	"math/big"
	"regexp"
	"strings"
	"testing"

	"qloom/api"
	"qloom/whole"
)

func TestParse(t *testing.T) {
	for _, text := range []string{
		"0", "1", "9", "10", "100", "-1", "-9", "-10", "1234567890", "-98765432109876543210",
		"9999999999999999999", "10000000000000000000", "18446744073709551615", "18446744073709551616",
		"1" + strings.Repeat("0", 700), "-1" + strings.Repeat("0", 701) + "5",
	} {
		n, fault := whole.Parse(text)
		equal(t, text, fault, none)
		equal(t, text, n.Text(), text)
	}
	equal(t, "a value", number(t, "-120").Cmp(whole.Of(-120)), 0)
}

func TestParseOfEachLength(t *testing.T) {
	seed := noise(4)
	for length := 1; length <= api.MaxDigits; length++ {
		text := make([]byte, length)
		for i := range text {
			text[i] = '0' + byte(seed.next()>>40%10)
		}
		text[0] = '1' + text[0]%9
		want, _ := new(big.Int).SetString(string(text), 10)
		n := number(t, string(text))
		equal(t, "Cmp", n.Cmp(fromBig(want)), 0)
		equal(t, "Text", n.Text(), string(text))
	}
}

func TestParseRefusesTexts(t *testing.T) {
	for text, at := range map[string]int{
		"": 0, "-": 1, "-0": 1, "00": 1, "01": 1, "007": 1, "-007": 1, "0x": 1, "0-": 1, "12x": 2, "-12x": 3, "--1": 1,
		"+1": 0, " 1": 0, "1 ": 1, "1\n": 1, "-x": 1, "x": 0, "1-2": 1, "1.5": 1, "1/2": 1, "1,000": 1, "1_000": 1, "0b1": 1,
		"\x00": 0, "12\x00": 2, "\xff": 0, "1\xff": 1, "１": 0, "1１": 1, "٣": 0, "1e3": 1, "1:": 1, "1/": 1,
	} {
		n, fault := whole.Parse(text)
		equal(t, text, fault, api.Fault{Code: api.ErrText, At: at})
		equal(t, text, n.Text(), "0")
	}
}

func TestParseRefusesLongNumbers(t *testing.T) {
	for _, sign := range []string{"", "-"} {
		n, fault := whole.Parse(sign + digits(api.MaxDigits))
		equal(t, "as long as may be", fault, none)
		equal(t, "as long as may be", n.Text(), sign+digits(api.MaxDigits))
		for _, more := range []int{1, 2, 5000} {
			n, fault = whole.Parse(sign + digits(api.MaxDigits+more))
			equal(t, "too long", fault, api.Fault{Code: api.ErrLong, At: 0})
			equal(t, "too long", n.Text(), "0")
		}
		_, fault = whole.Parse(sign + digits(2000) + "x")
		equal(t, "neither", fault, api.Fault{Code: api.ErrText, At: len(sign) + 2000})
	}
}

// eachText goes through all texts of some letters up to a length.
func eachText(letters string, length int, visit func(string)) {
	visit("")
	if length == 0 {
		return
	}
	for _, letter := range letters {
		eachText(letters, length-1, func(rest string) { visit(string(letter) + rest) })
	}
}

// longestBeginning is the length of the longest beginning that is as the form says.
func longestBeginning(form *regexp.Regexp, text string) int {
	for n := len(text); n > 0; n-- {
		if form.MatchString(text[:n]) {
			return n
		}
	}
	return 0
}

func TestParseOfAllShortTexts(t *testing.T) {
	is := regexp.MustCompile(`^(0|-?[1-9][0-9]*)$`)
	begins := regexp.MustCompile(`^(0|-|-?[1-9][0-9]*)$`)
	eachText("-019/ ", 5, func(text string) {
		n, fault := whole.Parse(text)
		if is.MatchString(text) {
			equal(t, text, fault, none)
			equal(t, text, n.Text(), text)
			return
		}
		equal(t, text, fault, api.Fault{Code: api.ErrText, At: longestBeginning(begins, text)})
	})
}

func TestText(t *testing.T) {
	for _, p := range pairs() {
		equal(t, "Text", p.n.Text(), p.big.String())
	}
}

// Noughts in the middle, and numbers that are longer than Parse reads them.
func TestTextOfLongNumbers(t *testing.T) {
	for _, exponent := range []int64{18, 19, 20, 37, 38, 39, 75, 76, 77, 151, 152, 153, 303, 304, 305, 999, 1000, 1001, 5000} {
		for _, b := range around(power(10, exponent)) {
			equal(t, "a power of ten", fromBig(b).Text(), b.String())
			equal(t, "below 0", fromBig(b).Neg().Text(), "-"+b.String())
		}
	}
	seed := noise(5)
	for _, length := range []int{3000, 3400, 10000, 64 * 500, 100000} {
		b := seed.bits(length)
		equal(t, "Text", fromBig(b).Text(), b.String())
	}
	a, _ := whole.Of(1).Shift(api.MaxShift)
	text := a.Text()
	equal(t, "2 to the MaxShift", text, power(2, api.MaxShift).String())
	_, fault := whole.Parse(text)
	equal(t, "longer than Parse takes", fault, api.Fault{Code: api.ErrLong, At: 0})
}
