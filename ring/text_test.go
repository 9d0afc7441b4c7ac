package ring_test

import (
	"regexp"
	"strings"
	"testing"

	"qloom/api"
	"qloom/ring"
)

func TestText(t *testing.T) {
	for want, a := range map[string]ring.Num{
		"0":                       {},
		"-1":                      ring.Root(8),
		"1/1":                     make8(t, 3, 4),
		"0,0,0,0,0,0,0,1/2":       make8(t, 2, 0, 0, 0, 0, 0, 0, 0, 1),
		"0,-3":                    make8(t, 1, 0, -6),
		"1,0,0,2":                 make8(t, 0, 1, 0, 0, 2, 0, 0, 0, 0),
		"1,2/1":                   make8(t, 1, 1, 2),
		"2,1/1":                   make8(t, 1, 2, 1),
		"1/10000":                 make8(t, 10000, 1),
		"-1,-1,-1,-1,-1,-1,-1,-1": make8(t, 0, -1, -1, -1, -1, -1, -1, -1, -1),
	} {
		equal(t, "Text", a.Text(), want)
	}
}

func TestParse(t *testing.T) {
	for _, text := range append(pool(),
		"1,2,3,4,5,6,7,8/9", "0,0,0,0,0,0,0,-1/10000", "-1,0,-1,0,-1/1", "1/9", "1/10", "1/99", "1/1000", "1/9999",
		digits(api.MaxDigits), "-"+digits(api.MaxDigits), "0,"+strings.Repeat(digits(api.MaxDigits)+",", 6)+"-"+digits(api.MaxDigits)+"/10000",
	) {
		n, fault := ring.Parse(text)
		equal(t, text, fault, none)
		equal(t, text, n.Text(), text)
	}
	equal(t, "a value", number(t, "0,0,-3/2").Same(make8(t, 3, 0, 0, -6)), true)
}

func TestParseRefusesTexts(t *testing.T) {
	for text, at := range map[string]int{
		"": 0, "-": 1, "-0": 1, "--1": 1, "00": 1, "01": 1, "007": 1, "-01": 1, "+1": 0, " 1": 0, "1 ": 1, "x": 0, "12x": 2, "1\n": 1,
		",": 0, "1,": 2, "1,,2": 2, ",1": 0, "1,-": 3, "1,-0": 3, "1, 2": 2, "1,x": 2, "1,2,": 4, "1,02": 3, "1;2": 1, "1,2x": 3,
		"/": 0, "1/": 2, "1/0": 2, "1/01": 2, "1/-1": 2, "1//1": 2, "1/1/1": 3, "1/1,1": 3, "1/2x": 3, "1/x": 2, "1/ 1": 2, "1,/1": 2, "/1": 0, "1/10,": 4,
		"1,2,3,4,5,6,7,8,": 15, "1,2,3,4,5,6,7,8,9": 15, "1,2,3,4,5,6,7,8 ": 15, "1,2,3,4,5,6,7,8/": 16, "1,2,3,4,5,6,7,": 14, "1,2,3,4,5,6,7,8/9,": 17,
		"\x00": 0, "1\x00": 1, "1,\x00": 2, "1/\x00": 2, "\xff": 0, "1/3\xff": 3, "１": 0, "1,１": 2, "٣": 0, "1.5": 1, "1e3": 1, "1:": 1, "-:": 1, "1/:": 2,
		"z": 0, "0/": 2, "0,0,": 4, "0x": 1, "-,1": 1, "-/1": 1,
	} {
		n, fault := ring.Parse(text)
		equal(t, text, fault, api.Fault{Code: api.ErrText, At: at})
		equal(t, text, n.Text(), "0")
	}
}

func TestParseRefusesLongNumbers(t *testing.T) {
	tooLong := digits(api.MaxDigits + 1)
	for _, text := range []string{
		tooLong, "-" + tooLong, "1," + tooLong, tooLong + ",1", "0,0,0,0,0,0,0,-" + tooLong, tooLong + "/1", "1,2,-" + tooLong + "/3",
		"1/10001", "1/10010", "1/99999", "1/100000", "1/" + digits(30), "1/" + digits(5000), "1/9223372036854775808", "1/18446744073709551617",
		tooLong + "/10001", digits(100000), "1," + digits(100000) + ",0/7",
	} {
		n, fault := ring.Parse(text)
		equal(t, text, fault, api.Fault{Code: api.ErrLong, At: 0})
		equal(t, text, n.Text(), "0")
	}
}

func TestParseRefusesOtherForms(t *testing.T) {
	for _, text := range []string{
		"2/1", "-2/1", "4/2", "2/2", "0/1", "0/10000", "0,0", "1,0", "0,0,0,0,0,0,0,0", "1,2,0", "1,0/1", "0,2,0,4/3", "2,4,6,8,10,12,14,16/1",
		"0,0/1", "1,1,1,1,1,1,1,0", "1,1,1,1,1,1,1,0/5", "18446744073709551616/64", "-18446744073709551616,36893488147419103232/1", digits(900) + "8/1",
	} {
		n, fault := ring.Parse(text)
		equal(t, text, fault, api.Fault{Code: api.ErrForm, At: 0})
		equal(t, text, n.Text(), "0")
	}
}

// Of two faults the first in the document's order is told.
func TestParseTellsTheFirstFault(t *testing.T) {
	tooLong := digits(api.MaxDigits + 1)
	for text, want := range map[string]api.Fault{
		tooLong + "x":          {Code: api.ErrText, At: api.MaxDigits + 1},
		tooLong + ",":          {Code: api.ErrText, At: api.MaxDigits + 2},
		"1," + tooLong + ",-0": {Code: api.ErrText, At: api.MaxDigits + 5},
		"1/10001x":             {Code: api.ErrText, At: 7},
		"2,0/1x":               {Code: api.ErrText, At: 5},
		tooLong + ",0":         {Code: api.ErrLong},
		"0," + tooLong + ",0":  {Code: api.ErrLong},
		"2/10001":              {Code: api.ErrLong},
		"0/10001":              {Code: api.ErrLong},
		"1,0/99999":            {Code: api.ErrLong},
		"2/10000":              {Code: api.ErrForm},
	} {
		_, fault := ring.Parse(text)
		equal(t, text, fault, want)
	}
}

// eachText goes through all texts of some letters up to a length.
func eachText(letters string, length int, visit func(string)) {
	visit("")
	if length == 0 {
		return
	}
	for _, letter := range letters {
		eachText(letters, length-1, func(rest string) { visit(string(letter) + rest) })
	}
}

// longestBeginning is the length of the longest beginning that is as the form says.
func longestBeginning(form *regexp.Regexp, text string) int {
	for n := len(text); n > 0; n-- {
		if form.MatchString(text[:n]) {
			return n
		}
	}
	return 0
}

var (
	isNumber = regexp.MustCompile(`^(0|-?[1-9][0-9]*)(,(0|-?[1-9][0-9]*)){0,7}(/[1-9][0-9]*)?$`)
	begins   = regexp.MustCompile(`^((0|-?[1-9][0-9]*),){0,7}(-?|(0|-?[1-9][0-9]*)(/([1-9][0-9]*)?)?)$`)
)

// wantedFault is what Parse is to say of a text that is not too long.
func wantedFault(text string) api.Fault {
	switch {
	case !isNumber.MatchString(text):
		return api.Fault{Code: api.ErrText, At: longestBeginning(begins, text)}
	case modelOf(text).text() != text:
		return api.Fault{Code: api.ErrForm}
	}
	return none
}

func TestParseOfAllShortTexts(t *testing.T) {
	check := func(text string) {
		n, fault := ring.Parse(text)
		equal(t, text, fault, wantedFault(text))
		if fault == none {
			equal(t, text, n.Text(), text)
		} else {
			equal(t, text, n.Text(), "0")
		}
	}
	eachText("-012,/ ", 5, check)
	eachText("-06,/", 6, check)
	eachText("04,/", 4, func(text string) {
		check("1,2,3,4,5,6," + text)
		check("8,8,8,8,8,8,8," + text)
	})
}
