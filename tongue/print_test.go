package tongue_test

import (
	"strings"
	"testing"

	"qloom/api"
	"qloom/tongue"
)

// Each kind of item and statement, line by line with its tabs: here $ is the end
// of a line but the last, and ~ a tab.
func TestPrintOfEachRule(t *testing.T) {
	for text, want := range map[string]string{
		"":                                 "",
		" // nothing\n":                    "",
		"qubit q [ 2 ] ;":                  "qubit q[2];",
		"bit b[n+1];":                      "bit b[n + 1];",
		"const k=1;":                       "const k = 1;",
		"const k=size ( q );":              "const k = size(q);",
		"gate g a{}":                       "gate g a {$}",
		"gate g(k)a{}":                     "gate g(k) a {$}",
		"gate g ( k,l ) a [ ],b{x a;y b;}": "gate g(k, l) a[], b {$~x a;$~y b;$}",
		"for i in 0..n{}":                  "for i in 0 .. n {$}",
		"for i in-1..(2){x;}":              "for i in -1 .. 2 {$~x;$}",
		"for i in(1+2)*3..4{}":             "for i in (1 + 2) * 3 .. 4 {$}",
		"when n{}":                         "when n {$}",
		"when(1+n)*2{}":                    "when (1 + n) * 2 {$}",
		"when-n{}":                         "when -n {$}",
		"when n==1{x;}y;":                  "when n == 1 {$~x;$}$y;",
		"if b{}":                           "if b {$}",
		"if!b[0]{x;}":                      "if !b[0] {$~x;$}",
		"if b{}else{}":                     "if b {$} else {$}",
		"if ! b{x;}else{y;z;}t;":           "if !b {$~x;$} else {$~y;$~z;$}$t;",
		"if a{if b{if c{}else{x;}}}else{if d{y;}}": "if a {$~if b {$~~if c {$~~} else {$~~~x;$~~}$~}$} else {$~if d {$~~y;$~}$}",
		"measure q->b;":                        "measure q -> b;",
		"measure q[0..2]->b[1];":               "measure q[0 .. 2] -> b[1];",
		"reset q;reset q[(1)];":                "reset q;$reset q[1];",
		"within{}apply{}":                      "within {$} apply {$}",
		"within{x;within{y;}apply{}}apply{z;}": "within {$~x;$~within {$~~y;$~} apply {$~}$} apply {$~z;$}",
		"x;":                                   "x;",
		"x q,r[0],s[1..2];":                    "x q, r[0], s[1 .. 2];",
		"p(1);":                                "p(1);",
		"p ( 1,-2,(3) ) q;":                    "p(1, -2, 3) q;",
		"inv@x q;":                             "inv @ x q;",
		"ctrl@inv@pow (n-1) @p(k)q;":           "ctrl @ inv @ pow(n - 1) @ p(k) q;",
		"pow(-1)@x;":                           "pow(-1) @ x;",
		"a^=b;":                                "a ^= b;",
		"a [0]^=(1);":                          "a[0] ^= 1;",
		"a[0..2]^=!b|!(c|0);":                  "a[0 .. 2] ^= !b | !(c | 0);",
		"a^=(((b))^c[(0)]);":                   "a ^= b ^ c[0];",
		"gate g a{for i in 0..2{when i{if!b{measure a->b;}else{reset a;}}}}x;": "gate g a {$~for i in 0 .. 2 {$~~when i {$~~~if !b {$~~~~measure a -> b;$~~~} else {$~~~~reset a;$~~~}$~~}$~}$}$x;",
	} {
		if want != "" {
			want = strings.NewReplacer("$", "\n", "~", "\t").Replace(want) + "\n"
		}
		equal(t, text, tongue.Print(parsed(t, text)), want)
	}
}

// Brackets that must stand are kept, brackets that must not are left out: what is
// to be read is written as it is here, with a blank between two tokens.
func TestPrintOfBrackets(t *testing.T) {
	for _, numbers := range []string{
		"a + b - c", "a - (b - c)", "a - (b + c)", "a + (b + c)", "a * b / c % d", "a * (b * c)", "a / (b / c)", "a % (b * c)", "a + b * c", "(a + b) * c", "a * (b + c)", "a * b + c * d", "a - b * c",
		"(a == b) + c", "a + (b == c)", "(a < b) < c", "a < (b < c)", "(a == b) == (c == d)", "a + b == c - d", "(a != b) * c", "a * (b >= c)", "-(a > b)", "(a <= b) ** c", "a ** (b <= c)",
		"-a", "--a", "-(a + b)", "-(a * b)", "-a * b", "-a + b", "a - -b", "a + -b", "a * -b", "a * --b", "a % -b ** c", "-a ** b", "(-a) ** b", "--a ** b", "(--a) ** b", "-(-a) ** b", "a ** -b", "a ** --b", "a ** -b ** c",
		"a ** b ** c", "(a ** b) ** c", "a ** (b * c)", "(a * b) ** c", "a * b ** c", "a ** b * c", "(a + b) ** (c + d)", "a ** (b + c)", "2 ** 3", "size(a) ** size(b)", "(a ** b ** c) ** d", "1 - 2 - 3", "-1 ** -2", "(-1) ** -2", "a == -b", "-a == b",
	} {
		holdPrint(t, "const k = "+numbers+";\n")
		holdPrint(t, "reset q["+numbers+"];\n")
		holdPrint(t, "for i in "+numbers+" .. "+numbers+" {\n}\n")
		for _, inner := range []string{"(" + numbers + ")", "((" + numbers + "))"} {
			equal(t, inner, tongue.Print(parsed(t, "p("+inner+");")), "p("+numbers+");\n")
			equal(t, inner, tongue.Print(parsed(t, "pow("+inner+")@x;")), "pow("+numbers+") @ x;\n")
		}
	}
	for _, truth := range []string{
		"a & b & c", "a & (b & c)", "a | b | c", "a | (b | c)", "a ^ b ^ c", "a ^ (b ^ c)", "a | b ^ c & d", "a & b ^ c | d", "(a | b) ^ c", "(a ^ b) & c", "(a | b) & c", "a & (b | c)", "a & (b ^ c)", "a ^ (b | c)", "a ^ b & c", "a | b & c", "a & b | c & d",
		"!a", "!!a", "!(a & b)", "!(a | b)", "!(a ^ b)", "!a & b", "a & !b", "!!(a | b)", "!a[0]", "!0", "!1 | 0", "!(a & b) & c", "a & (b & (c & d))", "(a | b) & (c | d)", "a ^ (b ^ c) ^ d", "0", "1", "a[1 .. 2]",
	} {
		holdPrint(t, "r ^= "+truth+";\n")
		equal(t, truth, tongue.Print(parsed(t, "r^=(("+truth+"));")), "r ^= "+truth+";\n")
	}
	for text, want := range map[string]string{
		"(a)+(b)": "a + b", "(a+b)+c": "a + b + c", "a+(b*c)": "a + b * c", "(a*b)*c": "a * b * c", "(a*b)+c": "a * b + c", "a**(b**c)": "a ** b ** c", "-(a**b)": "-a ** b", "-(-a)": "--a", "(-a)*b": "-a * b", "a*(-b)": "a * -b", "a**(-b)": "a ** -b",
		"(a+b)==(c+d)": "a + b == c + d", "(a)**(2)": "a ** 2", "(size(a))**2": "size(a) ** 2", "a-(-b)": "a - -b", "(a**b)*c": "a ** b * c", "-(2)": "-2", "-(size(a))": "-size(a)",
	} {
		equal(t, text, tongue.Print(parsed(t, "const k="+text+";")), "const k = "+want+";\n")
	}
	for text, want := range map[string]string{
		"(a&b)&c": "a & b & c", "(a|b)|c": "a | b | c", "(a^b)^c": "a ^ b ^ c", "(a&b)|(c&d)": "a & b | c & d", "(a&b)^(c&d)": "a & b ^ c & d", "(a^b)|(c^d)": "a ^ b | c ^ d", "!(!a)": "!!a", "!(a[0])": "!a[0]", "(!a)&(!b)": "!a & !b", "!(1)": "!1",
	} {
		equal(t, text, tongue.Print(parsed(t, "r^="+text+";")), "r ^= "+want+";\n")
	}
}

// holdPrint holds a text to be written as it was read.
func holdPrint(t *testing.T, text string) {
	t.Helper()
	equal(t, text, tongue.Print(parsed(t, text)), text)
}

// holdBrackets: would a tree be another one without any brackets of a number or a truth?
func holdBrackets(t *testing.T, text string, tree api.Node) {
	t.Helper()
	tokens := pieces(text)
	var open []int
	for i, p := range tokens {
		switch p.text {
		case "(":
			open = append(open, i)
		case ")":
			from := open[len(open)-1]
			open = open[:len(open)-1]
			if ahead := tokens[from-1].text; isName(ahead) || ahead == "size" || ahead == "pow" {
				continue
			}
			without := text[:tokens[from].at] + " " + text[tokens[from].at+1:p.at] + " " + text[p.at+1:]
			if n, f := tongue.Parse(without); f == none && alike(placeless(n), tree) {
				t.Fatalf("brackets that need not be at %d of %q", tokens[from].at, text)
			}
		}
	}
}

// Many programs: what is written is laid as the document says, has no brackets
// that need not be, is read again as the same tree, and written the same again.
func TestPrintOfManyPrograms(t *testing.T) {
	s := scribe{noise: 3}
	for i := range 2500 {
		_, tree := s.program(i % 120)
		text := tongue.Print(tree)
		if want := laid(pieces(text)); text != want {
			t.Fatalf("laid otherwise: %q, want %q", text, want)
		}
		back := parsed(t, text)
		if !alike(placeless(back), placeless(tree)) {
			t.Fatalf("read again from %q: %s, want %s", text, told(back), told(tree))
		}
		equal(t, "written again", tongue.Print(back), text)
		holdBrackets(t, text, placeless(tree))
	}
	text := tongue.Print(parsed(t, everything))
	equal(t, "everything", text, laid(pieces(text)))
	equal(t, "everything", told(placeless(parsed(t, text))), told(placeless(parsed(t, everything))))
}

// All numbers and truths of up to three signs.
func TestPrintOfAllSmallTerms(t *testing.T) {
	numbers := terms(3, []string{"a", "2"}, []string{"-"}, []string{"+", "*", "**", "=="})
	for _, text := range numbers {
		holdTerm(t, "const k="+text+";")
	}
	truths := terms(3, []string{"a", "1"}, []string{"!"}, []string{"|", "^", "&"})
	for _, text := range truths {
		holdTerm(t, "r^="+text+";")
	}
	if len(numbers) < 1000 || len(truths) < 1000 {
		t.Error("too few terms", len(numbers), len(truths))
	}
}

// terms are all terms of up to so many signs, all with brackets.
func terms(signs int, leaves, ahead, between []string) []string {
	bySigns := [][]string{leaves}
	all := leaves
	for n := 1; n <= signs; n++ {
		var next []string
		for _, inner := range bySigns[n-1] {
			for _, sign := range ahead {
				next = append(next, "("+sign+inner+")")
			}
		}
		for left := range n {
			for _, a := range bySigns[left] {
				for _, b := range bySigns[n-1-left] {
					for _, sign := range between {
						next = append(next, "("+a+sign+b+")")
					}
				}
			}
		}
		bySigns = append(bySigns, next)
		all = append(all, next...)
	}
	return all
}

func holdTerm(t *testing.T, text string) {
	t.Helper()
	tree := placeless(parsed(t, text))
	written := tongue.Print(tree)
	if back := parsed(t, written); !alike(placeless(back), tree) {
		t.Fatalf("%q is written %q", text, written)
	}
	holdBrackets(t, written, tree)
}

// Places have no part in what is written.
func TestPrintLeavesPlacesAlone(t *testing.T) {
	tree := parsed(t, everything)
	want := tongue.Print(tree)
	forPlaces(&tree, func(at *int) { *at = -*at - 7 })
	equal(t, "other places", tongue.Print(tree), want)
}

// Deep trees, as deep as texts can make them, are read, written, and read again.
func TestDeepNesting(t *testing.T) {
	for _, deep := range []struct{ ahead, text, behind string }{
		{"(", "1", ")"}, {"-", "1", ""}, {"1-(", "1", ")"}, {"-(1+", "1", ")"}, {"1**", "1", ""}, {"(", "1", ")**1"}, {"", "1", "+1"}, {"", "1", "*1"}, {"1==(", "1", ")"},
	} {
		times := (api.MaxLines - len("const k=1;")) / len(deep.ahead+deep.behind)
		text := "const k=" + nest(deep.ahead, deep.text, deep.behind, times) + ";"
		holdDeep(t, text)
	}
	for _, deep := range []struct{ ahead, text, behind string }{
		{"(", "a", ")"}, {"!", "a", ""}, {"!(", "a", ")"}, {"a&(", "a", ")"}, {"", "a", "&a"}, {"a|(", "a", ")"}, {"a^!(", "0", ")"},
	} {
		times := (api.MaxLines - len("r^=a;")) / len(deep.ahead+deep.behind)
		text := "r^=" + nest(deep.ahead, deep.text, deep.behind, times) + ";"
		holdDeep(t, text)
	}
	for _, deep := range []struct{ ahead, behind string }{
		{"if a{", "}"}, {"when 1{", "}"}, {"within{", "}apply{}"}, {"within{}apply{", "}"}, {"if a{}else{", "}"}, {"for i in 0..1{", "}"},
	} {
		holdDeep(t, nest(deep.ahead, "x;", deep.behind, 120))
	}
	for text, at := range map[string]int{
		"const k=" + strings.Repeat("(", 39992): 40000, "const k=" + strings.Repeat("-", 39992): 40000, "r^=" + strings.Repeat("(", 39997): 40000, "r^=" + strings.Repeat("!", 39997): 40000,
		strings.Repeat("if a{", 8000): 40000, nest("(", "", "", 9) + strings.Repeat("(", 30000): 0, "const k=" + nest("(", "1", ")", 15000) + ")": 8 + 30001,
		strings.Repeat("if a{", 6666) + strings.Repeat("}", 6667): 6666 * 6, "r^=" + nest("(", "a", ")", 15000) + "(;": 3 + 30001,
	} {
		refused(t, text, fault(api.ErrText, at))
	}
}

// holdDeep holds a program to be written and read again as the same, if the text is not too long.
func holdDeep(t *testing.T, text string) {
	t.Helper()
	tree := parsed(t, text)
	written := tongue.Print(tree)
	if written == "" {
		t.Errorf("nothing is written of %s", short(text))
	}
	if len(written) > api.MaxLines {
		refused(t, written, fault(api.ErrLong, 0))
		return
	}
	if !alike(placeless(parsed(t, written)), placeless(tree)) {
		t.Errorf("read otherwise again: %s", short(text))
	}
}

// The greatest trees that a text has: of nodes, and of blocks in one another.
func TestPrintOfTheGreatestTrees(t *testing.T) {
	full := strings.Repeat("a;", api.MaxLines/2)
	equal(t, "as many nodes as can be", tongue.Print(parsed(t, full)), strings.ReplaceAll(full, ";", ";\n"))
	depth := api.MaxLines / len("if a{}")
	text := tongue.Print(parsed(t, nest("if a{", "", "}", depth)))
	lines := strings.Split(text, "\n")
	equal(t, "lines", len(lines), 2*depth+1)
	for i := range depth {
		tabs := strings.Repeat("\t", i)
		if lines[i] != tabs+"if a {" || lines[2*depth-1-i] != tabs+"}" {
			t.Fatalf("line %d: %s, and %s", i, short(strings.TrimLeft(lines[i], "\t")), short(strings.TrimLeft(lines[2*depth-1-i], "\t")))
		}
	}
	name := strings.Repeat("n", api.MaxLines-1)
	equal(t, "a long name", tongue.Print(parsed(t, name+";")), name+";\n")
}
