package circ_test

import (
	"regexp"
	"slices"
	"strconv"
	"strings"
	"testing"

	"qloom/api"
	"qloom/circ"
)

func TestPrint(t *testing.T) {
	for want, c := range map[string]api.Circuit{
		text("qubits 1 bits 0"):                                         {Qubits: 1},
		text("qubits 12 bits 12"):                                       {Qubits: 12, Bits: 12, Ops: []api.Op{}},
		text("qubits 1 bits 0", "phase 0"):                              one(1, 0, api.Op{Kind: api.Phase}),
		text("qubits 1 bits 0", "phase 15"):                             one(1, 0, api.Op{Kind: api.Phase, K: 15}),
		text("qubits 1 bits 0", "p 0 0"):                                one(1, 0, api.Op{Kind: api.P}),
		text("qubits 2 bits 0", "p 10 1 on 0"):                          one(2, 0, api.Op{Kind: api.P, K: 10, Q: 1, Ctl: []int{0}}),
		text("qubits 12 bits 0", "x 11"):                                one(12, 0, api.Op{Kind: api.X, Q: 11, Ctl: []int{}}),
		text("qubits 5 bits 0", "h 0 on 4 1 3"):                         one(5, 0, api.Op{Kind: api.H, Ctl: []int{4, 1, 3}}),
		text("qubits 1 bits 1", "measure 0 to 0"):                       one(1, 1, api.Op{Kind: api.Measure}),
		text("qubits 12 bits 12", "measure 10 to 11 if 0"):              one(12, 12, api.Op{Kind: api.Measure, Q: 10, Bit: 11, If: []int{1}}),
		text("qubits 2 bits 2", "reset 1 if !1 1 !0 0 !1"):              one(2, 2, api.Op{Kind: api.Reset, Q: 1, If: []int{-2, 2, -1, 1, -2}}),
		text("qubits 2 bits 12", "phase 7 if !11 11"):                   one(2, 12, api.Op{Kind: api.Phase, K: 7, If: []int{-12, 12}}),
		text("qubits 3 bits 1", "x 1 on 2 0 if !0"):                     one(3, 1, api.Op{Kind: api.X, Q: 1, Ctl: []int{2, 0}, If: []int{-1}}),
		text("qubits 2 bits 1", "h 0", "x 1 on 0", "measure 1 to 0"):    {Qubits: 2, Bits: 1, Ops: []api.Op{{Kind: api.H}, {Kind: api.X, Q: 1, Ctl: []int{0}}, {Kind: api.Measure, Q: 1}}},
		text("qubits 2 bits 1", "p 3 1 on 0 if 0", "reset 0 if 0 0 !0"): {Qubits: 2, Bits: 1, Ops: []api.Op{{Kind: api.P, K: 3, Q: 1, Ctl: []int{0}, If: []int{1}}, {Kind: api.Reset, If: []int{1, 1, -1}}}},
	} {
		equal(t, want, printed(t, c), want)
		back, f := circ.Parse(want)
		equal(t, want, f, none)
		same(t, want, back, c)
	}
}

func TestPrintTellsChecksFault(t *testing.T) {
	for _, c := range badPool() {
		s, f := circ.Print(c)
		equal(t, "a fault", f, wantedCheck(c))
		if f != none {
			equal(t, "with a fault", s, "")
		}
	}
}

func TestParseReadsWhatPrintWrites(t *testing.T) {
	circuits := pool()
	seed := noise(3)
	for i := range 500 {
		circuits = append(circuits, seed.circuit(i%9))
	}
	for _, c := range circuits {
		s := printed(t, c)
		back, f := circ.Parse(s)
		equal(t, s, f, none)
		same(t, s, back, c)
		equal(t, "again", printed(t, back), s)
	}
}

func TestParseRefusesLines(t *testing.T) {
	for _, line := range []string{
		"", " ", "h", "h ", "h 0 ", " h 0", "h  0", "h\t0", "h 0\r", "H 0", "h x", "h -1", "h +1", "h 0x1", "h 1.0", "h 0 1", "h 0,1", "hh 0", "h0", "y 0",
		"h 00", "h 01", "h 007", "h 0000000000", "h 1234567890", "h 12345678901234567890", "h １", "h \x00", "\x00", "\xff", "#", "h 0 # 1", "h 0;",
		"x 0 on", "x 0 on ", "x 0 on  1", "x 0 on 1 ", "x 0  on 1", "x 0 on 1  0", "x 0 on 1 2 on 3", "x 0 on -1", "x 0 on !1", "x 0 on 01", "x 0 on 1,2", "x 0on 1", "x 0 on1",
		"x 0 on 1 to 0", "x on 1", "x 0 on 1x", "x 0 on 1234567890", "x 0 ON 1", "x 0 on on 1", "x 0 on 1 on 2",
		"phase", "phase ", "phase 1 0", "phase 1 on 0", "phase on 0", "phase -1", "phase 016", "phase 1234567890", "phas 1", "phases 1", "phase1", "phase 1 to 0", "phase if 0",
		"p", "p 1", "p 1 ", "p 1 0 2", "p 1  0", "p  1 0", "p 1 on 0", "p 1 if 0", "p 01 0", "p 1 00", "p 1 0 to 0", "p -1 0", "ph 1", "p1 0",
		"measure", "measure 0", "measure 0 ", "measure 0 to", "measure 0 to ", "measure 0 0", "measure 0 to 0 1", "measure 0 to !0", "measure 0 to -1", "measure 0 on 1 to 0",
		"measure 0 to 0 on 1", "measure 0 to 00", "measure 0 if 0", "measure 0 if 0 to 0", "measure 0 to 1234567890", "measure 0 to 0 to 0", "measure to 0", "measure 0to 0", "measures 0 to 0",
		"reset", "reset 0 on 1", "reset 0 to 0", "reset 0 1", "reset !0", "reset 01", "reset  0",
		"x 0 if", "x 0 if ", "x 0 if !", "x 0 if ! 0", "x 0 if !!0", "x 0 if -1", "x 0 if 0!", "x 0 if 00", "x 0 if !00", "x 0 if !01", "x 0 if 0  1", "x 0 if 0 ", "x 0 if  0", "x 0 if0",
		"x 0 if 0 if 1", "x 0 if 0 on 1", "x 0 if !1234567890", "x 0 if 1234567890", "x 0 if 0 !", "x 0 on if 0", "x 0 on 1 if", "x 0 on 1if 0", "x 0 IF 0", "x if 0", "x 0 iff 0",
		"qubits 1 bits 0", "bits 0", "on 0", "to 0", "if 0",
	} {
		c, f := circ.Parse(text("qubits 1 bits 0", line))
		refused(t, line, c, f, fault(api.ErrText, 1))
		c, f = circ.Parse(text("qubits 1 bits 0", "x 0", line, "h 0", "nothing"))
		refused(t, line, c, f, fault(api.ErrText, 2))
	}
}

func TestParseRefusesFirstLines(t *testing.T) {
	for _, line := range []string{
		"", " ", "h 0", "qubits", "qubits 1", "qubits 1 ", "qubits 1 bits", "qubits 1 bits ", "qubits 1 bits 0 ", " qubits 1 bits 0", "qubits  1 bits 0", "qubits 1  bits 0", "qubits 1 bits  0",
		"Qubits 1 bits 0", "qubit 1 bits 0", "qubits 1 bit 0", "qubits -1 bits 0", "qubits 1 bits -1", "qubits 01 bits 0", "qubits 1 bits 00", "qubits 1 bits 0 if 0", "qubits 1, bits 0",
		"qubits 1234567890 bits 0", "qubits 1 bits 1234567890", "qubits 1 bits 0\r", "bits 0 qubits 1", "qubits 1bits 0", "qubits1 bits 0", "qubits 1 bits0", "qubits x bits 0", "qubits bits 0",
		"\ufeffqubits 1 bits 0", "\x00", "\xff\xfe",
	} {
		c, f := circ.Parse(text(line))
		refused(t, line, c, f, fault(api.ErrText, 0))
		c, f = circ.Parse(text(line, "x 0", "nothing"))
		refused(t, line, c, f, fault(api.ErrText, 0))
	}
}

func TestParseOfTextsWithoutAnEnd(t *testing.T) {
	for s, line := range map[string]int{
		"": 0, "qubits 1 bits 0": 0, "qubits 1 bits 0\nh 0": 1, "qubits 1 bits 0\n\n": 1, "qubits 1 bits 0\nh 0\n\n": 2, "qubits 1 bits 0\nh 0\nh 0": 2, "\n": 0, "\n\n": 0,
		"qubits 1 bits 0\nh 0\n ": 2, "qubits 1 bits 0\nx": 1, "qubits 1 bits 0\nx 0 on 1": 1, "qubits 1 bits 0\nx 0 on 1 if": 1, "qubits 1 bits 0\nx 0 if !0": 1, "qubits 1 bits 0\nx 0 if !": 1,
		"qubits 1 bits 0\nbad\nh 0": 1, "qubits 1 bits 0\r\nh 0\r\n": 0, "qubits 1 bits 0\nh 0\x00": 1, "q": 0, "qubits ": 0, "qubits 1 bits ": 0,
	} {
		c, f := circ.Parse(s)
		refused(t, s, c, f, fault(api.ErrText, line))
	}
}

// Nine digits are a number, though never one of a circuit; ten are none.
func TestParseOfLongNumbers(t *testing.T) {
	nine, ten := "999999999", "1000000000"
	for form, want := range map[string]api.Fault{
		"qubits N bits 0\n":                 fault(api.ErrQubits, 0),
		"qubits 1 bits N\n":                 fault(api.ErrBits, 0),
		"qubits 1 bits 0\nh 0\nphase N\n":   fault(api.ErrAngle, 1),
		"qubits 1 bits 0\nh 0\np N 0\n":     fault(api.ErrAngle, 1),
		"qubits 1 bits 0\nh N\n":            fault(api.ErrQubit, 0),
		"qubits 1 bits 0\nx 0 on N\n":       fault(api.ErrQubit, 0),
		"qubits 2 bits 0\nx 0 on 1 N\n":     fault(api.ErrQubit, 0),
		"qubits 1 bits 1\nmeasure 0 to N\n": fault(api.ErrBit, 0),
		"qubits 1 bits 1\nx 0 if N\n":       fault(api.ErrIf, 0),
		"qubits 1 bits 1\nx 0 if 0 !N\n":    fault(api.ErrIf, 0),
	} {
		s := strings.Replace(form, "N", nine, 1)
		c, f := circ.Parse(s)
		refused(t, s, c, f, want)
		s = strings.Replace(form, "N", ten, 1)
		c, f = circ.Parse(s)
		refused(t, s, c, f, fault(api.ErrText, strings.Count(form[:strings.Index(form, "N")], "\n")))
	}
}

// What is of the form, but no circuit, has the fault of Check.
func TestParseTellsChecksFault(t *testing.T) {
	for s, want := range map[string]api.Fault{
		text("qubits 0 bits 0"):                              fault(api.ErrQubits, 0),
		text("qubits 13 bits 13"):                            fault(api.ErrQubits, 0),
		text("qubits 12 bits 13"):                            fault(api.ErrBits, 0),
		text("qubits 1 bits 0", "h 0", "phase 16"):           fault(api.ErrAngle, 1),
		text("qubits 1 bits 0", "p 16 5 on 7"):               fault(api.ErrAngle, 0),
		text("qubits 1 bits 0", "p 15 0 on 1"):               fault(api.ErrQubit, 0),
		text("qubits 2 bits 0", "x 1", "x 0", "x 1 on 1"):    fault(api.ErrClone, 2),
		text("qubits 3 bits 0", "x 1 on 0 2 0"):              fault(api.ErrClone, 0),
		text("qubits 1 bits 0", "measure 0 to 0"):            fault(api.ErrBit, 0),
		text("qubits 1 bits 1", "measure 0 to 1 if 1"):       fault(api.ErrBit, 0),
		text("qubits 1 bits 1", "reset 0 if 0 !1"):           fault(api.ErrIf, 0),
		text("qubits 1 bits 1", "x 0 if"+nTimes(" !0", 25)):  fault(api.ErrIf, 0),
		text("qubits 1 bits 1", "x 0 if"+nTimes(" 0", 5000)): fault(api.ErrIf, 0),
	} {
		c, f := circ.Parse(s)
		refused(t, s, c, f, want)
	}
	most := text("qubits 1 bits 1", "x 0 if"+nTimes(" !0", 24))
	equal(t, "just not too many conditions", printed(t, circuit(t, strings.TrimSuffix(most, "\n"))), most)
}

func nTimes(s string, n int) string { return strings.Repeat(s, n) }

// A bad line is told ahead of all that Check finds, wherever it stands.
func TestParseTellsTheFirstFault(t *testing.T) {
	for s, line := range map[string]int{
		text("qubits 0 bits 99", "h 0", "bad"):              2,
		text("qubits 1 bits 0", "h 5", "x 0 on 0", "bad"):   3,
		"qubits 13 bits 0\nh 0":                             1,
		"qubits 1 bits 0\n" + nTimes("h 0\n", 5000) + "bad": 5001,
		"qubits 1 bits 0\n" + nTimes("h 9\n", 5000) + "h 0": 5001,
	} {
		c, f := circ.Parse(s)
		refused(t, s, c, f, fault(api.ErrText, line))
	}
}

func TestParseOfLongTexts(t *testing.T) {
	header := "qubits 1 bits 0\n"
	c, f := circ.Parse(header + nTimes("h 0\n", api.MaxOps))
	equal(t, "as many lines as can be", f, none)
	equal(t, "as many lines as can be", len(c.Ops), api.MaxOps)
	c, f = circ.Parse(header + nTimes("h 0\n", api.MaxOps+1))
	refused(t, "a line more", c, f, fault(api.ErrLong, 0))

	full := header + nTimes("h 0\n", (api.MaxText-len(header))/4)
	equal(t, "the length", len(full), api.MaxText)
	c, f = circ.Parse(full[:api.MaxText-1] + "x")
	refused(t, "a last line of a full text", c, f, fault(api.ErrText, (api.MaxText-len(header))/4))
	c, f = circ.Parse(full + "x")
	refused(t, "a byte too many", c, f, fault(api.ErrLong, 0))

	controls := header + "x 0 on" + nTimes(" 0", (api.MaxText-len(header)-7)/2)
	controls += nTimes("0", api.MaxText-1-len(controls)) + "\n"
	equal(t, "the length", len(controls), api.MaxText)
	c, f = circ.Parse(strings.Replace(controls, " 00\n", "000\n", 1))
	refused(t, "noughts", c, f, fault(api.ErrText, 1))
	c, f = circ.Parse(strings.Replace(controls, " 00\n", " 10\n", 1))
	refused(t, "one line that fills the text", c, f, fault(api.ErrClone, 0))
	c, f = circ.Parse("\n" + controls)
	refused(t, "a byte too many", c, f, fault(api.ErrLong, 0))
	c, f = circ.Parse(nTimes("9", 3*api.MaxText))
	refused(t, "far too many bytes", c, f, fault(api.ErrLong, 0))
}

const (
	aNumber    = `(0|[1-9][0-9]{0,8})`
	conditions = `( if( !?` + aNumber + `)+)?$`
)

var (
	isHeader = regexp.MustCompile(`^qubits ` + aNumber + ` bits ` + aNumber + `$`)
	isOp     = []*regexp.Regexp{
		api.Phase:   regexp.MustCompile(`^phase ` + aNumber + conditions),
		api.X:       regexp.MustCompile(`^x ` + aNumber + `( on( ` + aNumber + `)+)?` + conditions),
		api.H:       regexp.MustCompile(`^h ` + aNumber + `( on( ` + aNumber + `)+)?` + conditions),
		api.P:       regexp.MustCompile(`^p ` + aNumber + ` ` + aNumber + `( on( ` + aNumber + `)+)?` + conditions),
		api.Measure: regexp.MustCompile(`^measure ` + aNumber + ` to ` + aNumber + conditions),
		api.Reset:   regexp.MustCompile(`^reset ` + aNumber + conditions),
	}
)

// wantedOpOf reads a line in another way than the program: by its form, and then by its words.
func wantedOpOf(line string) (api.Op, bool) {
	kind := slices.IndexFunc(isOp, func(form *regexp.Regexp) bool { return form != nil && form.MatchString(line) })
	if kind < 0 {
		return api.Op{}, false
	}
	op := api.Op{Kind: kind}
	var ahead, behind []int
	place := &ahead
	for _, word := range strings.Fields(line)[1:] {
		switch n, err := strconv.Atoi(strings.TrimPrefix(word, "!")); {
		case word == "to":
		case word == "on":
			place = &op.Ctl
		case word == "if":
			place = &behind
		case err != nil:
			return api.Op{}, false
		case word[0] == '!':
			op.If = append(op.If, -n-1)
		case place == &behind:
			op.If = append(op.If, n+1)
		default:
			*place = append(*place, n)
		}
	}
	switch kind {
	case api.Phase:
		op.K = ahead[0]
	case api.P:
		op.K, op.Q = ahead[0], ahead[1]
	case api.Measure:
		op.Q, op.Bit = ahead[0], ahead[1]
	default:
		op.Q = ahead[0]
	}
	return op, true
}

func wantedParse(s string) (api.Circuit, api.Fault) {
	lines := strings.Split(s, "\n")
	var c api.Circuit
	for i, line := range lines[:len(lines)-1] {
		op, ok := wantedOpOf(line)
		if i == 0 {
			ok = isHeader.MatchString(line)
		}
		switch {
		case !ok:
			return api.Circuit{}, fault(api.ErrText, i)
		case i == 0:
			words := strings.Fields(line)
			c.Qubits, _ = strconv.Atoi(words[1])
			c.Bits, _ = strconv.Atoi(words[3])
		default:
			c.Ops = append(c.Ops, op)
		}
	}
	if last := len(lines) - 1; lines[last] != "" || last == 0 {
		return api.Circuit{}, fault(api.ErrText, last)
	}
	if f := wantedCheck(c); f != none {
		return api.Circuit{}, f
	}
	return c, none
}

func compareParse(t *testing.T, s string) {
	t.Helper()
	c, f := circ.Parse(s)
	want, wantFault := wantedParse(s)
	if f != wantFault || !alike(c, want) {
		t.Fatalf("Parse of %s: %s, %v, want %s, %v", short(s), short(c), f, short(want), wantFault)
	}
	if f == none {
		equal(t, s, printed(t, c), s)
	}
}

// eachRow goes through all rows of some pieces up to a length.
func eachRow(pieces []string, length int, visit func(string)) {
	visit("")
	if length == 0 {
		return
	}
	for _, piece := range pieces {
		eachRow(pieces, length-1, func(rest string) { visit(piece + rest) })
	}
}

func TestParseOfAllShortTexts(t *testing.T) {
	eachRow([]string{"x", "p", "measure", " 0", " 1", " on", " to", " if", " !0", "\n"}, 5, func(s string) {
		compareParse(t, "qubits 2 bits 1\n"+s+"\n")
	})
	eachRow([]string{"reset", "phase", "h", " 1", " on", " if", "!", " ", "0", "\n"}, 5, func(s string) {
		compareParse(t, "qubits 2 bits 1\nx 0\n"+s)
	})
	eachRow([]string{" 0", " 1", " on", " if", " !1", "0"}, 5, func(s string) {
		compareParse(t, "qubits 2 bits 2\nx 1"+s+"\n")
	})
	eachRow([]string{"qubits", " 1", "0", " bits", "\n", " "}, 6, func(s string) { compareParse(t, s) })
}

// Good texts with a byte or two changed, put in or left out.
func TestParseOfSpoiledTexts(t *testing.T) {
	seed := noise(5)
	letters := "0123456789 \n!-xhpif tonemaursbq\x00\xff\r\t"
	for range 20000 {
		s := printed(t, seed.circuit(seed.below(4)))
		for range 1 + seed.below(2) {
			at, way := seed.below(len(s)), seed.below(3)
			i := seed.below(len(letters))
			switch way {
			case 0:
				s = s[:at] + letters[i:i+1] + s[at:]
			case 1:
				s = s[:at] + letters[i:i+1] + s[at+1:]
			case 2:
				s = s[:at] + s[at+1:]
			}
		}
		compareParse(t, s)
	}
}
