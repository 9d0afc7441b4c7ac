package tongue_test

import (
	"strings"
	"testing"

	"qloom/api"
	"qloom/tongue"
)

// compareFault holds Parse to the fault that the grammar says.
func compareFault(t *testing.T, rules map[string][][]part, text string) {
	t.Helper()
	n, f := tongue.Parse(text)
	if want := wantedFault(rules, text); f != want {
		t.Fatalf("Parse of %q: %v, want %v", text, f, want)
	}
	if f != none && !alike(n, api.Node{}) {
		t.Fatalf("Parse of %q: a tree with a fault: %s", text, told(n))
	}
}

// The first token that cannot stand where it does, though others behind it could not, either.
func TestTheFirstTokenThatCannotStand(t *testing.T) {
	for text, at := range map[string]int{
		"}": 0, "{": 0, ";": 0, "x;;": 2, "x;}": 2, "1;": 0, "(x);": 0, "!x;": 0, "-x;": 0, "@x;": 0, "else{}": 0, "in;": 0, "apply{}": 0, "size(q);": 0, "[0]^=1;": 0, "^=1;": 0,
		"qubit;": 5, "qubit 1;": 6, "qubit q;": 7, "qubit q(1);": 7, "qubit q[];": 8, "qubit q[1;": 9, "qubit q[1]": 10, "qubit q[1] x;": 11, "qubit q[1..2];": 9, "qubit q[1],r[1];": 10, "qubit q = 1;": 8,
		"bit;": 3, "bit b;": 5, "bit b[];": 6, "bit b[1}": 7, "bit b[1]}": 8, "bit [1];": 4,
		"const;": 5, "const 1;": 6, "const k;": 7, "const k 1;": 8, "const k==1;": 7, "const k=;": 8, "const k=1": 9, "const k=1,2;": 9, "const k=1..2;": 9, "const k[1]=1;": 7, "const k^=1;": 7,
		"gate;": 4, "gate{}": 4, "gate g{}": 6, "gate g;": 6, "gate g()a{}": 7, "gate g(k){}": 9, "gate g(k,)a{}": 9, "gate g(k l)a{}": 9, "gate g(1)a{}": 7, "gate g(k[])a{}": 8, "gate g(k)(l)a{}": 9, "gate g a": 8,
		"gate g a;": 8, "gate g a b{}": 9, "gate g a,{}": 9, "gate g a[0]{}": 9, "gate g a[{}": 9, "gate g a]{}": 8, "gate g a{qubit q[1];}": 9, "gate g a{gate h b{}}": 9, "gate g a{const k=1;}": 9, "gate g a{bit b[1];}": 9, "gate g a{{}}": 9, "gate g a{x}": 10,
		"for;": 3, "for 1 in 0..1{}": 4, "for i 0..1{}": 6, "for i in..1{}": 8, "for i in 0{}": 10, "for i in 0,1{}": 10, "for i in 0..{}": 12, "for i in 0..1;": 13, "for i in 0..1..2{}": 13, "for i in 0.1{}": 10, "for i[0] in 0..1{}": 5, "for (i) in": 4,
		"when{}": 4, "when n;": 6, "when !n{}": 5, "when n=1{}": 6, "when n&m{}": 6, "when n{}else{}": 8, "when n[0]{}": 6, "when n->m{}": 6,
		"if{}": 2, "if 1{}": 3, "if !!b{}": 4, "if b": 4, "if b;": 4, "if b[0 {}": 7, "if b==1{}": 4, "if (b){}": 3, "if b{}else;": 10, "if b{}else if c{}": 11, "if b{}else{}else{}": 12, "if !{}": 4, "if !=b{}": 3,
		"measure;": 7, "measure q;": 9, "measure q->;": 11, "measure q->b": 12, "measure q-b;": 9, "measure q- >b;": 9, "measure q->b->c;": 12, "measure q,r->b;": 9, "measure 1->b;": 8, "b=measure q;": 1, "measure q->b{}": 12,
		"reset;": 5, "reset q": 7, "reset q,r;": 7, "reset q[];": 8, "reset q[0": 9, "reset q[0;": 9, "reset q[0..];": 11, "reset q[0..1..2];": 12, "reset q[..1];": 8, "reset q[0,1];": 9, "reset (q);": 6, "reset q[0][1];": 10,
		"within;": 6, "within{}": 8, "within{}{}": 8, "within{}apply;": 13, "within{}else{}": 8, "within x;apply{}": 7, "within{apply{}}": 7, "apply{}within{}": 0,
		"inv x;": 4, "inv@;": 4, "inv@": 4, "inv;": 3, "ctrl x;": 5, "ctrl@1;": 5, "pow@x;": 3, "pow(@x;": 4, "pow()@x;": 4, "pow(1@x;": 5, "pow(1)x;": 6, "pow 2@x;": 4, "pow(1,2)@x;": 5, "inv@@x;": 4, "inv@{}": 4, "inv@for": 4, "inv@reset q;": 4, "inv@x@y;": 5, "x@y;": 1, "inv@size;": 4,
		"x()q;": 2, "x(1 q;": 4, "x(1,)q;": 4, "x(,1)q;": 2, "x(1)(2)q;": 4, "x q,;": 4, "x q r;": 4, "x q[0] r;": 7, "x q(1);": 3, "x 1;": 2, "x -1;": 2, "x (1)2;": 5, "x{}": 1, "x q{}": 3, "x q[0]..;": 6, "x q;y": 5,
		"a^=;": 3, "a^=2;": 3, "a^=10;": 3, "a^=b c;": 5, "a^=b+c;": 4, "a^=b==c;": 4, "a^=b^=c;": 4, "a^=-b;": 3, "a^=!;": 4, "a^=(b;": 5, "a^=b);": 4, "a^=();": 4, "a^=b&;": 5, "a^=b|;": 5, "a^=b^;": 5, "a^=b&&c;": 5, "a^=b||c;": 5, "a^=b!c;": 4, "a^=size(b);": 3, "a^=b[0;": 6, "a^=b(1);": 4, "a^=0[1];": 4, "a^=1 0;": 5, "a^=&b;": 3,
		"const k=a<b<c;": 11, "const k=a==b!=c;": 12, "const k=a+;": 10, "const k=+a;": 8, "const k=a*;": 10, "const k=*a;": 8, "const k=a**;": 11, "const k=**a;": 8, "const k=a***b;": 11, "const k=-;": 9, "const k=();": 9, "const k=(a;": 10, "const k=a);": 9, "const k=size;": 12, "const k=size q;": 13, "const k=size();": 13, "const k=size(1);": 13, "const k=size(q;": 14,
		"const k=size(q[0]);": 14, "const k=a b;": 10, "const k=a(1);": 9, "const k=1 2;": 10, "const k=1a;": 9, "const k=!a;": 8, "const k=a&b;": 9, "const k=a|b;": 9, "const k=a^b;": 9, "const k=a==;": 11, "const k=a=b;": 9, "const k=a===b;": 11, "const k=a=<b;": 9, "const k=a=>b;": 9, "const k=a<>b;": 10, "const k=a>>b;": 10, "const k=a! =b;": 9, "const k=a->b;": 9,
	} {
		refused(t, text, fault(api.ErrText, at))
		refused(t, text+"}$ 007", fault(api.ErrText, at))
		refused(t, "x q;\n"+text, fault(api.ErrText, at+5))
	}
}

// Keywords stand nowhere for a name.
func TestKeywordsAreNoNames(t *testing.T) {
	rules := rules()
	words := strings.Fields(keywords)
	equal(t, "how many", len(words), 17)
	for _, word := range words {
		for _, frame := range []string{
			"qubit W[1];", "bit W[1];", "const W=1;", "gate W a{}", "gate g W{}", "gate g a,W[]{}", "gate g(W)a{}", "gate g(k,W)a{}", "for W in 0..1{}", "if W{}", "if !W{}",
			"measure W->b;", "measure q->W;", "reset W;", "x W;", "x q,W;", "x(1)W;", "a^=W;", "a^=!W;", "a^=b&W[0];", "const k=size(W);", "const k=1+W;",
		} {
			text := strings.Replace(frame, "W", word, 1)
			compareFault(t, rules, text)
			if word != "size" || !strings.HasSuffix(frame, "+W;") {
				refused(t, text, fault(api.ErrText, strings.Index(frame, "W")))
			}
			for _, name := range []string{word + "s", word + "_", "_" + word, word + "1", strings.ToUpper(word), strings.ToUpper(word[:1]) + word[1:], word[:len(word)-1] + "X"} {
				parsed(t, strings.Replace(frame, "W", name, 1))
			}
		}
		for _, frame := range []string{"W;", "W a;", "W(1);", "W@x;", "W[0]^=1;", "W^=1;", "inv@W;", "inv@W a;", "ctrl@W@x;", "if b{W;}", "if b W{}", "x W", "W"} {
			compareFault(t, rules, strings.Replace(frame, "W", word, 1))
		}
	}
}

func TestNumbersOfTexts(t *testing.T) {
	for digits, value := range map[string]int{"0": 0, "1": 1, "9": 9, "10": 10, "100000000": 100000000, "123456789": 123456789, "999999999": 999999999} {
		n := parsed(t, "const k="+digits+";").Kids[0].Kids[0]
		equal(t, digits, n.N, value)
	}
	for _, digits := range []string{"00", "01", "007", "000000000", "012345678", "0000000000", "1000000000", "1234567890", "9999999999", strings.Repeat("9", 30000), strings.Repeat("0", 30000)} {
		for _, frame := range []string{"const k=W;", "const k=1+W;", "reset q[W];", "for i in 0..W{}", "p(1,W);", "a^=W;", "a^=b&W;", "x W;", "W", "x;W"} {
			refused(t, strings.Replace(frame, "W", digits, 1), fault(api.ErrText, strings.Index(frame, "W")))
		}
	}
	equal(t, "a number ahead of two dots", told(parsed(t, "for i in 0..1{}")), "program(for@0:i(num@9 num@12=1 block@13))")
	refused(t, "const k=0x1;", fault(api.ErrText, 9))
	refused(t, "const k=1_0;", fault(api.ErrText, 9))
	refused(t, "const k=1.5;", fault(api.ErrText, 9))
	equal(t, "digits of a name", told(parsed(t, "a007 b00,_0000000000;")), "program(apply@0:a007(group group group(ref@5:b00 ref@9:_0000000000)))")
}

// All rows of two signs, and all of three that begin alike, behind all that a sign can stand behind.
func TestSignsThatBeginAlike(t *testing.T) {
	rules := rules()
	signs := strings.Fields(".. -> ^= == != <= >= ** { } ( ) [ ] ; , @ = < > + - * / % ! & | ^ .")
	alike := strings.Fields(". - > ^ = ! < * /")
	var rows []string
	for _, a := range signs {
		for _, b := range signs {
			rows = append(rows, a+b, a+" "+b)
		}
	}
	for _, a := range alike {
		for _, b := range alike {
			for _, c := range alike {
				rows = append(rows, a+b+c, a+" "+b+c, a+b+" "+c)
			}
		}
	}
	for _, row := range rows {
		for _, ahead := range []string{"x", "x q", "const k=a", "a^=b", "a^=", "measure q", "for i in 0", "if ", "when a"} {
			compareFault(t, rules, ahead+row+"b;")
		}
	}
}

// Each byte, wherever a token can stand.
func TestBytesThatBeginNoToken(t *testing.T) {
	rules := rules()
	frames := []string{"", "W", "x;W", "x W;", "x W", "x(W);", "xW;", "const k=W;", "const k=1W;", "a^=W;", "a^=bW;", "if b{W}", "qubit W[1];", "for iW in 0..1{}", "for i in 0W.1{}", "x;//W", "x;/W/", "measure q-Wb;"}
	for b := range 256 {
		text := string([]byte{byte(b)})
		for _, frame := range frames {
			compareFault(t, rules, strings.Replace(frame, "W", text, 1))
		}
	}
	for _, text := range []string{"#", "$", "\"", "'", "?", "\\", "`", "~", ":", ".", "\x00", "\x7f", "\x80", "\xff", "é", "世", "\u2028"} {
		refused(t, text, fault(api.ErrText, 0))
		refused(t, "x q"+text+";", fault(api.ErrText, 3))
		refused(t, "const k = "+text+"1;", fault(api.ErrText, 10))
	}
}

// The end of the text in the midst of each rule.
func TestTextsThatEndTooSoon(t *testing.T) {
	rules := rules()
	whole := 0
	for at := range len(everything) + 1 {
		compareFault(t, rules, everything[:at])
	}
	for _, p := range pieces(everything) {
		end := p.at + len(p.text)
		for _, behind := range []string{"", " ", "\n\n", "// nothing", "//\n\t"} {
			if p.text == "/" && behind == "// nothing" {
				continue // a remark that begins at the sign
			}
			text := everything[:end] + behind
			want := wantedFault(rules, text)
			if want != none {
				equal(t, text, want, fault(api.ErrText, len(text)))
				refused(t, text, want)
			} else {
				parsed(t, text)
				whole++
			}
		}
	}
	if whole == 0 {
		t.Error("no text is a program")
	}
}

// Each row of a few tokens, and each place in it.
func TestAllShortRows(t *testing.T) {
	rules := rules()
	for _, tokens := range []string{
		"a 1 ( ) [ ] ; , ^= .. @ inv", "a 0 { } if else ! when ; [ ]", "a b qubit bit [ ] 1 ; const = gate ( ) { }", "for i in 0 .. { } within apply ;", "measure reset a [ 1 ] -> ; ,", "ctrl inv pow ( 2 ) @ x q ; ,",
	} {
		eachRow(strings.Fields(tokens), 4, func(text string) { compareFault(t, rules, text) })
	}
	for _, ahead := range []string{"const k =", "a ^=", "reset q["} {
		eachRow(strings.Fields("a 1 ( ) - + * ** == < ! & | ^ size .. ]"), 3, func(text string) { compareFault(t, rules, ahead+text+" ;") })
	}
}

// eachRow visits all rows of some tokens up to a length.
func eachRow(tokens []string, length int, visit func(string)) {
	visit("")
	if length == 0 {
		return
	}
	for _, token := range tokens {
		eachRow(tokens, length-1, func(rest string) { visit(" " + token + rest) })
	}
}

// Programs with a token or a byte put in, left out, changed or doubled.
func TestSpoiledPrograms(t *testing.T) {
	rules := rules()
	s := scribe{noise: 2}
	words := strings.Fields(keywords + " .. -> ^= == != <= >= ** { } ( ) [ ] ; , @ = < > + - * / % ! & | ^ a q7 0 1 2 00 1234567890 . # \x00 \xff")
	for i := range 3000 {
		text, _ := s.program(1 + i%60)
		tokens := pieces(text)
		if len(tokens) == 0 {
			continue
		}
		p, word := tokens[s.below(len(tokens))], " "+s.pick(words...)+" "
		end := p.at + len(p.text)
		for _, spoiled := range []string{text[:p.at] + word + text[p.at:], text[:p.at] + word + text[end:], text[:p.at] + text[end:], text[:end] + " " + text[p.at:], text[:p.at], text[:end-1] + text[end:], text[:p.at+1] + word[1:2] + text[p.at+1:]} {
			compareFault(t, rules, spoiled)
		}
	}
}

func TestTextsOfMaxLinesBytes(t *testing.T) {
	full := strings.Repeat("a;", api.MaxLines/2)
	equal(t, "the length", len(full), api.MaxLines)
	equal(t, "statements", len(parsed(t, full).Kids), api.MaxLines/2)
	for _, text := range []string{strings.Repeat(" ", api.MaxLines), "//" + strings.Repeat("x", api.MaxLines-2), strings.Repeat("\n", api.MaxLines)} {
		equal(t, "blanks", told(parsed(t, text)), "program")
	}
	name := strings.Repeat("n", api.MaxLines-1)
	equal(t, "a long name", told(parsed(t, name+";")), "program(apply@0:"+name+"(group group group))")
	refused(t, name+"n", fault(api.ErrText, api.MaxLines))
	refused(t, full[1:]+"}", fault(api.ErrText, 0))
	refused(t, full[:api.MaxLines-1]+"}", fault(api.ErrText, api.MaxLines-1))
	refused(t, full[:api.MaxLines-1]+" ", fault(api.ErrText, api.MaxLines))
	for _, text := range []string{full + " ", " " + full, full + "\n", full + "}", "}" + full, strings.Repeat(" ", api.MaxLines+1), "//" + strings.Repeat("x", api.MaxLines-1), strings.Repeat("#", api.MaxLines+1), name + "nn", strings.Repeat(full, 50), strings.Repeat("(", 1<<20)} {
		refused(t, text, fault(api.ErrLong, 0))
	}
}
