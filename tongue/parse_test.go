package tongue_test

import (
	"strings"
	"testing"

	"qloom/api"
	"qloom/tongue"
)

// Each rule with each of its branches, and the place of each node.
func TestParseOfEachRule(t *testing.T) {
	for text, want := range map[string]string{
		"":                         "program",
		"qubit q[2];":              "qubit@0:q(num@8=2)",
		"bit b[n];":                "bit@0:b(name@6:n)",
		"const k = 3;":             "const@0:k(num@10=3)",
		" qubit q[2];bit b[1];":    "qubit@1:q(num@9=2) bit@12:b(num@18=1)",
		"gate g a{}":               "gate@0:g(group group(param@7:a) block@8)",
		"gate g a[]{}":             "gate@0:g(group group(param@7:a=1) block@10)",
		"gate g a,b[],c{}":         "gate@0:g(group group(param@7:a param@9:b=1 param@13:c) block@14)",
		"gate g(k) a{}":            "gate@0:g(group(param@7:k) group(param@10:a) block@11)",
		"gate g(k,l,m) a{x a;}":    "gate@0:g(group(param@7:k param@9:l param@11:m) group(param@14:a) block@15(apply@16:x(group group group(ref@18:a))))",
		"for i in 0..n{}":          "for@0:i(num@9 name@12:n block@13)",
		"for i in 1+2..-3{x;}":     "for@0:i(bin@10:+(num@9=1 num@11=2) neg@14(num@15=3) block@16(apply@17:x(group group group)))",
		"when n{}":                 "when@0(name@5:n block@6)",
		"when n==1{x;y;}":          "when@0(bin@6:==(name@5:n num@8=1) block@9(apply@10:x(group group group) apply@12:y(group group group)))",
		"if b{}":                   "if@0(ref@3:b block@4)",
		"if !b[1]{}":               "if@0=1(ref@4:b=1(num@6=1) block@8)",
		"if b{}else{x;}":           "if@0(ref@3:b block@4 block@10(apply@11:x(group group group)))",
		"if ! b { } else { }":      "if@0=1(ref@5:b block@7 block@16)",
		"measure q->b;":            "measure@0(ref@8:q ref@11:b)",
		"measure q[0]->b[1..2];":   "measure@0(ref@8:q=1(num@10) ref@14:b=2(num@16=1 num@19=2))",
		"reset q;":                 "reset@0(ref@6:q)",
		"reset q[3];":              "reset@0(ref@6:q=1(num@8=3))",
		"within{}apply{}":          "within@0(block@6 block@13)",
		"within{x;}apply{y;}":      "within@0(block@6(apply@7:x(group group group)) block@15(apply@16:y(group group group)))",
		"x;":                       "apply@0:x(group group group)",
		"x q;":                     "apply@0:x(group group group(ref@2:q))",
		"x q,r[0],s[0..1];":        "apply@0:x(group group group(ref@2:q ref@4:r=1(num@6) ref@9:s=2(num@11 num@14=1)))",
		"p(1);":                    "apply@0:p(group group(num@2=1) group)",
		"p(1,k,-2) q;":             "apply@0:p(group group(num@2=1 name@4:k neg@6(num@7=2)) group(ref@10:q))",
		"inv@x q;":                 "apply@0:x(group(inv@0) group group(ref@6:q))",
		"ctrl@x q,r;":              "apply@0:x(group(ctrl@0) group group(ref@7:q ref@9:r))",
		"pow(2)@x q;":              "apply@0:x(group(pow@0(num@4=2)) group group(ref@9:q))",
		"ctrl@inv@pow(n-1)@p(k)q;": "apply@0:p(group(ctrl@0 inv@5 pow@9(bin@14:-(name@13:n num@15=1))) group(name@20:k) group(ref@22:q))",
		"inv @ inv @ x;":           "apply@0:x(group(inv@0 inv@6) group group)",
		"a^=b;":                    "flip@0(ref@0:a ref@3:b)",
		"a[0]^=1;":                 "flip@0(ref@0:a=1(num@2) one@6=1)",
		"a[0..n]^=0;":              "flip@0(ref@0:a=2(num@2 name@5:n) one@9)",
	} {
		if want != "program" {
			want = "program(" + want + ")"
		}
		equal(t, text, told(parsed(t, text)), want)
	}
}

// Numbers, their grouping, and the places of operators.
func TestParseOfNumbers(t *testing.T) {
	for text, want := range map[string]string{
		"0":             "num@0",
		"999999999":     "num@0=999999999",
		"a":             "name@0:a",
		"size(q)":       "size@0:q",
		"size ( q )":    "size@0:q",
		"(a)":           "name@1:a",
		"((7))":         "num@2=7",
		"-a":            "neg@0(name@1:a)",
		"--a":           "neg@0(neg@1(name@2:a))",
		"- - -1":        "neg@0(neg@2(neg@4(num@5=1)))",
		"(-a)":          "neg@1(name@2:a)",
		"a+b":           "bin@1:+(name@0:a name@2:b)",
		"a-b":           "bin@1:-(name@0:a name@2:b)",
		"a*b":           "bin@1:*(name@0:a name@2:b)",
		"a/b":           "bin@1:/(name@0:a name@2:b)",
		"a%b":           "bin@1:%(name@0:a name@2:b)",
		"a**b":          "bin@1:**(name@0:a name@3:b)",
		"a==b":          "bin@1:==(name@0:a name@3:b)",
		"a!=b":          "bin@1:!=(name@0:a name@3:b)",
		"a<b":           "bin@1:<(name@0:a name@2:b)",
		"a<=b":          "bin@1:<=(name@0:a name@3:b)",
		"a>b":           "bin@1:>(name@0:a name@2:b)",
		"a>=b":          "bin@1:>=(name@0:a name@3:b)",
		"a+b-c":         "bin@3:-(bin@1:+(name@0:a name@2:b) name@4:c)",
		"a-b+c":         "bin@3:+(bin@1:-(name@0:a name@2:b) name@4:c)",
		"a-(b-c)":       "bin@1:-(name@0:a bin@4:-(name@3:b name@5:c))",
		"a*b/c%d":       "bin@5:%(bin@3:/(bin@1:*(name@0:a name@2:b) name@4:c) name@6:d)",
		"a/(b*c)":       "bin@1:/(name@0:a bin@4:*(name@3:b name@5:c))",
		"a**b**c":       "bin@1:**(name@0:a bin@4:**(name@3:b name@6:c))",
		"(a**b)**c":     "bin@6:**(bin@2:**(name@1:a name@4:b) name@8:c)",
		"a+b*c":         "bin@1:+(name@0:a bin@3:*(name@2:b name@4:c))",
		"a*b+c":         "bin@3:+(bin@1:*(name@0:a name@2:b) name@4:c)",
		"(a+b)*c":       "bin@5:*(bin@2:+(name@1:a name@3:b) name@6:c)",
		"a*b**c":        "bin@1:*(name@0:a bin@3:**(name@2:b name@5:c))",
		"a**b*c":        "bin@4:*(bin@1:**(name@0:a name@3:b) name@5:c)",
		"-a**2":         "neg@0(bin@2:**(name@1:a num@4=2))",
		"(-a)**2":       "bin@4:**(neg@1(name@2:a) num@6=2)",
		"a**-b":         "bin@1:**(name@0:a neg@3(name@4:b))",
		"a**-b**c":      "bin@1:**(name@0:a neg@3(bin@5:**(name@4:b name@7:c)))",
		"-a*b":          "bin@2:*(neg@0(name@1:a) name@3:b)",
		"-(a*b)":        "neg@0(bin@3:*(name@2:a name@4:b))",
		"a*-b":          "bin@1:*(name@0:a neg@2(name@3:b))",
		"a- -b":         "bin@1:-(name@0:a neg@3(name@4:b))",
		"a--b":          "bin@1:-(name@0:a neg@2(name@3:b))",
		"a+b==c*d":      "bin@3:==(bin@1:+(name@0:a name@2:b) bin@6:*(name@5:c name@7:d))",
		"(a<b)<c":       "bin@5:<(bin@2:<(name@1:a name@3:b) name@6:c)",
		"a<(b<c)":       "bin@1:<(name@0:a bin@4:<(name@3:b name@5:c))",
		"a+(b==c)":      "bin@1:+(name@0:a bin@4:==(name@3:b name@6:c))",
		"size(a)**3":    "bin@7:**(size@0:a num@9=3)",
		"1//\n+//+2\n2": "bin@4:+(num@0=1 num@10=2)",
	} {
		for frame, shape := range map[string]string{
			"const k=E;":      "const@0:k(E)",
			"qubit q[E];":     "qubit@0:q(E)",
			"bit b[ E ];":     "bit@0:b(E)",
			"when E{}":        "when@0(E block@B)",
			"p(E);":           "apply@0:p(group group(E) group)",
			"pow(E)@x;":       "apply@0:x(group(pow@0(E)) group group)",
			"reset q[E];":     "reset@0(ref@6:q=1(E))",
			"reset q[E..1];":  "reset@0(ref@6:q=2(E num@N=1))",
			"for i in E..1{}": "for@0:i(E num@N=1 block@B)",
		} {
			at := strings.Index(frame, "E")
			whole := strings.Replace(frame, "E", text, 1)
			shape = strings.NewReplacer("E", moved(want, at), "@B", place(strings.LastIndex(whole, "{")), "@N", place(strings.LastIndex(whole, "1"))).Replace(shape)
			equal(t, whole, told(parsed(t, whole)), "program("+shape+")")
		}
	}
}

// Truths, their grouping, and the places of operators.
func TestParseOfTruths(t *testing.T) {
	for text, want := range map[string]string{
		"0":          "one@0",
		"1":          "one@0=1",
		"a":          "ref@0:a",
		"a[2]":       "ref@0:a=1(num@2=2)",
		"a[1..2]":    "ref@0:a=2(num@2=1 num@5=2)",
		"a[-1]":      "ref@0:a=1(neg@2(num@3=1))",
		"(a)":        "ref@1:a",
		"((1))":      "one@2=1",
		"!a":         "not@0(ref@1:a)",
		"!!a":        "not@0(not@1(ref@2:a))",
		"! ( !1)":    "not@0(not@4(one@5=1))",
		"a&b":        "and@1(ref@0:a ref@2:b)",
		"a|b":        "or@1(ref@0:a ref@2:b)",
		"a^b":        "xor@1(ref@0:a ref@2:b)",
		"a&b&c":      "and@3(and@1(ref@0:a ref@2:b) ref@4:c)",
		"a|b|c":      "or@3(or@1(ref@0:a ref@2:b) ref@4:c)",
		"a^b^c":      "xor@3(xor@1(ref@0:a ref@2:b) ref@4:c)",
		"a&(b&c)":    "and@1(ref@0:a and@4(ref@3:b ref@5:c))",
		"a|(b|c)":    "or@1(ref@0:a or@4(ref@3:b ref@5:c))",
		"a^(b^c)":    "xor@1(ref@0:a xor@4(ref@3:b ref@5:c))",
		"a|b^c&d":    "or@1(ref@0:a xor@3(ref@2:b and@5(ref@4:c ref@6:d)))",
		"a&b^c|d":    "or@5(xor@3(and@1(ref@0:a ref@2:b) ref@4:c) ref@6:d)",
		"(a|b)^c":    "xor@5(or@2(ref@1:a ref@3:b) ref@6:c)",
		"(a^b)&c":    "and@5(xor@2(ref@1:a ref@3:b) ref@6:c)",
		"(a|b)&c":    "and@5(or@2(ref@1:a ref@3:b) ref@6:c)",
		"!a&b":       "and@2(not@0(ref@1:a) ref@3:b)",
		"!(a&b)":     "not@0(and@3(ref@2:a ref@4:b))",
		"a[0]&!b[1]": "and@4(ref@0:a=1(num@2) not@5(ref@6:b=1(num@8=1)))",
		"0|1":        "or@1(one@0 one@2=1)",
	} {
		for frame, shape := range map[string]string{"r^=T;": "flip@0(ref@0:r T)", " r[0] ^= T ;": "flip@1(ref@1:r=1(num@3) T)"} {
			at := strings.Index(frame, "T")
			whole := strings.Replace(frame, "T", text, 1)
			equal(t, whole, told(parsed(t, whole)), "program("+strings.Replace(shape, "T", moved(want, at), 1)+")")
		}
	}
}

// What begins with the same name is a flip if `[` or `^=` is behind it, and else an application.
func TestFlipsAndApplications(t *testing.T) {
	for text, want := range map[string]string{
		"a^=b;":         "flip@0(ref@0:a ref@3:b)",
		"a ^= b;":       "flip@0(ref@0:a ref@5:b)",
		"a//[\n^=b;":    "flip@0(ref@0:a ref@7:b)",
		"a [0]^=b;":     "flip@0(ref@0:a=1(num@3) ref@7:b)",
		"a;":            "apply@0:a(group group group)",
		"a b;":          "apply@0:a(group group group(ref@2:b))",
		"a b[0];":       "apply@0:a(group group group(ref@2:b=1(num@4)))",
		"a(0);":         "apply@0:a(group group(num@2) group)",
		"a//[0]^=\n b;": "apply@0:a(group group group(ref@10:b))",
	} {
		equal(t, text, told(parsed(t, text)), "program("+want+")")
	}
	for text, at := range map[string]int{
		"a[0];": 4, "a[0] b;": 5, "a[0],b;": 4, "a[0](1);": 4, "a b^=c;": 3, "a(1)^=c;": 4, "a(1)[0]^=c;": 4, "a[]^=b;": 2, "a[0][1]^=b;": 4,
		"inv@a[0]^=b;": 5, "inv@a^=b;": 5, "ctrl@a[0];": 6, "a==b;": 1, "a=b;": 1, "a^b;": 1, "a^ =b;": 1, "a->b;": 1, "a,b;": 1, "a b c;": 4, "a b,;": 4, "a;b^=c": 6,
	} {
		refused(t, text, fault(api.ErrText, at))
	}
}

// moved is a told tree whose places are further back.
func moved(tree string, by int) string {
	pieces := strings.Split(tree, "@")
	for i, piece := range pieces[1:] {
		digits := strings.IndexFunc(piece+".", func(r rune) bool { return r < '0' || r > '9' })
		pieces[i+1] = place(number(piece[:digits]) + by)[1:] + piece[digits:]
	}
	return strings.Join(pieces, "@")
}

// The examples of the document.
func TestExamples(t *testing.T) {
	n := parsed(t, "qubit q[2];h q[0];ctrl@x q[0],q[1];")
	equal(t, "kinds", told(placeless(n)), "program(qubit@0:q(num@0=2) apply@0:h(group group group(ref@0:q=1(num@0))) apply@0:x(group(ctrl@0) group group(ref@0:q=1(num@0) ref@0:q=1(num@0=1))))")
	equal(t, "three lines", tongue.Print(n), "qubit q[2];\nh q[0];\nctrl @ x q[0], q[1];\n")
	equal(t, "a flip", tongue.Print(parsed(t, "a[0]^=b&!c;")), "a[0] ^= b & !c;\n")
	refused(t, "x 1;", fault(api.ErrText, 2))
	power := parsed(t, "const p = -a ** 2;").Kids[0].Kids[0]
	equal(t, "the sign of a power", told(power), "neg@10(bin@13:**(name@11:a num@16=2))")
	power = parsed(t, "const p = (-a) ** 2;").Kids[0].Kids[0]
	equal(t, "the power of a sign", told(power), "bin@15:**(neg@11(name@12:a) num@18=2)")
}

// Programs without order, of which the trees are known.
func TestParseOfManyPrograms(t *testing.T) {
	s := scribe{noise: 1}
	seen := map[int]bool{}
	for i := range 6000 {
		text, want := s.program(i % 300)
		got := parsed(t, text)
		if !alike(got, want) {
			t.Fatalf("Parse of %q:\n%s, want\n%s", text, told(got), told(want))
		}
		tallyKinds(want, seen)
	}
	equal(t, "how many kinds", len(seen), len(kinds)-1)
}

func tallyKinds(n api.Node, seen map[int]bool) {
	seen[n.Kind] = true
	for _, kid := range n.Kids {
		tallyKinds(kid, seen)
	}
}

// With anything between its tokens a program is the same, but for places.
func TestBlanksBetweenTokens(t *testing.T) {
	want := parsed(t, everything)
	tokens := pieces(everything)
	for _, between := range []string{" ", "\t", "\n", "\r", "\r\n", " \t\r\n ", "//\n", " // ; } // x\n", "//\r\n", "///*\n", "// \x00\xff\"\n\n", "//\n//\n\t//\n"} {
		var text strings.Builder
		places := map[int]int{0: 0}
		for _, p := range tokens {
			text.WriteString(between)
			places[p.at] = text.Len()
			text.WriteString(p.text)
			if p.text == "/" {
				text.WriteByte(' ') // the sign must not begin a remark
			}
		}
		for _, end := range []string{"", between, "//", " // the end", "//\r"} {
			got := parsed(t, text.String()+end)
			there := copyOf(want)
			forPlaces(&there, func(at *int) { *at = places[*at] })
			if !alike(got, there) {
				t.Errorf("with %q between tokens: %s, want %s", between, short(told(got)), short(told(there)))
			}
		}
	}
	for text, at := range map[string]int{"x// y;": 6, "x /* y */;": 2, "x q / ;": 4, "x\vq;": 1, "x\fq;": 1, "x\u00a0q;": 1, "x\ufeff;": 1, "\x00": 0, "const k = 1//2;": 15, "x; /": 3, "x; / /": 3} {
		refused(t, text, fault(api.ErrText, at))
	}
	equal(t, "remarks alone", told(parsed(t, " // a\n\t//b\r\n//")), "program")
}
