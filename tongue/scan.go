package tongue

import (
	"strings"

	"qloom/api"
)

// Kinds of tokens.
const (
	noMore  = iota // the end of the text
	noToken        // what begins none
	aName
	aNumber
	aWord // a keyword or a sign
)

// maxDigits is how many digits a number of a text may have.
const maxDigits = 9

// token is a piece of a text, with its place. Where there is none, the word is
// empty, so that it is none of those that are asked for.
type token struct {
	kind  int
	place int
	word  string
}

// scanner goes through a text: it stands at one token, and knows where the text
// behind it begins.
type scanner struct {
	token
	text   string
	behind int
}

// scan is a scanner that stands at a text's first token.
func scan(text string) scanner {
	in := scanner{text: text}
	in.next()
	return in
}

// next goes to the next token.
func (in *scanner) next() {
	place := in.behind + blanks(in.text[in.behind:])
	kind, word := firstToken(in.text[place:])
	in.token = token{kind: kind, place: place, word: word}
	in.behind = place + len(word)
}

// wordBehind is the word of the token behind this one.
func (in scanner) wordBehind() string {
	in.next()
	return in.word
}

// take goes past the word, if the scanner stands at it.
func (in *scanner) take(word string) bool {
	if in.word != word {
		return false
	}
	in.next()
	return true
}

// need goes past a word that must stand here.
func (in *scanner) need(word string) {
	if !in.take(word) {
		in.giveUp()
	}
}

// name goes past a name, which must stand here. The text itself is not kept.
func (in *scanner) name() string {
	if in.kind != aName {
		in.giveUp()
	}
	name := strings.Clone(in.word)
	in.next()
	return name
}

// giveUp refuses the token at which the scanner stands.
func (in *scanner) giveUp() {
	panic(refusal{Code: api.ErrText, At: in.place})
}

// blanks is how many bytes come ahead of a text's first token.
func blanks(text string) int {
	at := 0
	for at < len(text) {
		switch {
		case strings.IndexByte(" \t\n\r", text[at]) >= 0:
			at++
		case strings.HasPrefix(text[at:], "//"):
			at += lineLength(text[at:])
		default:
			return at
		}
	}
	return at
}

// lineLength is how many bytes a text has up to its first line feed, or to its end.
func lineLength(text string) int {
	if end := strings.IndexByte(text, '\n'); end >= 0 {
		return end
	}
	return len(text)
}

// firstToken is the kind and the word of the token with which a text begins.
func firstToken(text string) (int, string) {
	switch {
	case text == "":
		return noMore, ""
	case isLetter(text[0]):
		return nameOrKeyword(text[:span(text, isLetterOrDigit)])
	case isDigit(text[0]):
		return number(text[:span(text, isDigit)])
	}
	for size := min(2, len(text)); size > 0; size-- {
		if isSign(text[:size]) {
			return aWord, text[:size]
		}
	}
	return noToken, ""
}

// span is with how many bytes of a kind a text begins.
func span(text string, is func(byte) bool) int {
	at := 0
	for at < len(text) && is(text[at]) {
		at++
	}
	return at
}

func isLetter(b byte) bool {
	return b >= 'a' && b <= 'z' || b >= 'A' && b <= 'Z' || b == '_'
}

func isDigit(b byte) bool { return b >= '0' && b <= '9' }

func isLetterOrDigit(b byte) bool { return isLetter(b) || isDigit(b) }

// number tells numbers from digits that are none.
func number(digits string) (int, string) {
	if len(digits) > maxDigits || len(digits) > 1 && digits[0] == '0' {
		return noToken, ""
	}
	return aNumber, digits
}

// nameOrKeyword tells names from keywords.
func nameOrKeyword(word string) (int, string) {
	switch word {
	case "qubit", "bit", "const", "gate", "for", "in", "when", "if", "else",
		"measure", "reset", "within", "apply", "inv", "ctrl", "pow", "size":
		return aWord, word
	}
	return aName, word
}

// isSign: is the text a sign?
func isSign(text string) bool {
	switch text {
	case "..", "->", "^=", "==", "!=", "<=", ">=", "**",
		"{", "}", "(", ")", "[", "]", ";", ",", "@", "=",
		"<", ">", "+", "-", "*", "/", "%", "!", "&", "|", "^":
		return true
	}
	return false
}
