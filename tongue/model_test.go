package tongue_test

import (
	"regexp"
	"strings"

	"qloom/api"
)

// What the document says, written out once more: its grammar as it stands there,
// which says of each row of tokens how far it can stand.

const grammar = `
program = { item }
item    = "qubit" NAME "[" expr "]" ";" | "bit" NAME "[" expr "]" ";" | "const" NAME "=" expr ";"
        | "gate" NAME [ "(" NAME { "," NAME } ")" ] wire { "," wire } block | stmt
wire    = NAME [ "[" "]" ]
block   = "{" { stmt } "}"
stmt    = "for" NAME "in" expr ".." expr block
        | "when" expr block
        | "if" [ "!" ] ref block [ "else" block ]
        | "measure" ref "->" ref ";" | "reset" ref ";"
        | "within" block "apply" block
        | { mod "@" } NAME [ "(" expr { "," expr } ")" ] [ ref { "," ref } ] ";"
        | ref "^=" truth ";"
mod     = "inv" | "ctrl" | "pow" "(" expr ")"
ref     = NAME [ "[" expr [ ".." expr ] "]" ]
expr    = sum [ ("==" | "!=" | "<" | "<=" | ">" | ">=") sum ]
sum     = prod { ("+" | "-") prod }
prod    = sign { ("*" | "/" | "%") sign }
sign    = "-" sign | unit [ "**" sign ]
unit    = NUMBER | NAME | "size" "(" NAME ")" | "(" expr ")"
truth   = xor { "|" xor }
xor     = and { "^" and }
and     = not { "&" not }
not     = "!" not | "(" truth ")" | "0" | "1" | ref
`

const keywords = "qubit bit const gate for in when if else measure reset within apply inv ctrl pow size"

// part is a part of a rule: a word, which may be a rule's name, or ways to go on,
// of which one is gone once, once or not at all, or any number of times.
type part struct {
	word      string
	ways      [][]part
	skip, rep bool
}

// rules are the ways of each rule's name.
func rules() map[string][][]part {
	out := map[string][][]part{}
	words := strings.Fields(strings.NewReplacer(` ("`, ` ( "`, `") `, `" ) `).Replace(grammar))
	for len(words) > 0 {
		name := words[0]
		out[name], words = readWays(words[2:])
	}
	return out
}

// readWays reads up to a closing bracket, to the next rule, or to the end.
func readWays(words []string) ([][]part, []string) {
	ways := [][]part{nil}
	for len(words) > 0 && (len(words) == 1 || words[1] != "=") {
		last := len(ways) - 1
		word := words[0]
		words = words[1:]
		switch word {
		case ")", "]", "}":
			return ways, words
		case "|":
			ways = append(ways, nil)
		case "(", "[", "{":
			p := part{skip: word != "(", rep: word == "{"}
			p.ways, words = readWays(words)
			ways[last] = append(ways[last], p)
		default:
			ways[last] = append(ways[last], part{word: word})
		}
	}
	return ways, words
}

// stack is what must come from here on, up to the text's end.
type stack struct {
	top  part
	rest *stack
}

func push(way []part, rest *stack) *stack {
	for i := len(way) - 1; i >= 0; i-- {
		rest = &stack{way[i], rest}
	}
	return rest
}

// expand visits all that can come, each with a token on top of it, or nil.
func (s *stack) expand(rules map[string][][]part, visit func(*stack)) {
	if s == nil {
		visit(nil)
		return
	}
	ways, rest := s.top.ways, s.rest
	if s.top.word != "" {
		ways = rules[s.top.word]
		if ways == nil {
			visit(s)
			return
		}
	}
	if s.top.skip {
		rest.expand(rules, visit)
	}
	if s.top.rep {
		rest = s
	}
	for _, way := range ways {
		push(way, rest).expand(rules, visit)
	}
}

// piece is a token with its place.
type piece struct {
	text string
	at   int
}

var tokenForm = regexp.MustCompile(`^(?:[A-Za-z_][A-Za-z_0-9]*|[0-9]+|\.\.|->|\^=|==|!=|<=|>=|\*\*|[{}()\[\];,@=<>+\-*/%!&|^])`)
var blankForm = regexp.MustCompile(`^(?:[ \t\n\r]|//[^\n]*)*`)
var nameForm = regexp.MustCompile(`^[A-Za-z_]`)
var numberForm = regexp.MustCompile(`^(?:0|[1-9][0-9]{0,8})$`)

// pieces are the tokens of a text, up to one that is none, which has no text.
func pieces(text string) []piece {
	var out []piece
	for at := 0; ; {
		at += len(blankForm.FindString(text[at:]))
		if at == len(text) {
			return out
		}
		word := tokenForm.FindString(text[at:])
		if word == "" || isDigits(word) && !numberForm.MatchString(word) {
			return append(out, piece{"", at})
		}
		out = append(out, piece{word, at})
		at += len(word)
	}
}

func isDigits(word string) bool { return word[0] >= '0' && word[0] <= '9' }

func isKeyword(word string) bool { return strings.Contains(" "+keywords+" ", " "+word+" ") }

func isName(word string) bool { return nameForm.MatchString(word) && !isKeyword(word) }

// isOf: is a token one of what a word of the grammar says?
func isOf(token, word string) bool {
	switch word {
	case "NAME":
		return isName(token)
	case "NUMBER":
		return numberForm.MatchString(token)
	}
	return `"`+token+`"` == word
}

// wantedFault is the fault that a text has by the grammar.
func wantedFault(rules map[string][][]part, text string) api.Fault {
	if len(text) > api.MaxLines {
		return fault(api.ErrLong, 0)
	}
	stacks := []*stack{{part{word: "program"}, nil}}
	for _, p := range pieces(text) {
		var next []*stack
		for _, s := range stacks {
			s.expand(rules, func(s *stack) {
				if s != nil && p.text != "" && isOf(p.text, s.top.word) {
					next = append(next, s.rest)
				}
			})
		}
		if len(next) == 0 {
			return fault(api.ErrText, p.at)
		}
		stacks = next
	}
	ended := false
	for _, s := range stacks {
		s.expand(rules, func(s *stack) { ended = ended || s == nil })
	}
	if !ended {
		return fault(api.ErrText, len(text))
	}
	return none
}

// laid is a row of tokens as the document says that Print lays it.
func laid(tokens []piece) string {
	var out strings.Builder
	depth := 0
	for i, p := range tokens {
		if p.text == "}" {
			depth--
		}
		ahead := ""
		if i > 0 {
			ahead = tokens[i-1].text
		}
		switch {
		case i == 0 || endsLine(ahead, p.text):
			out.WriteString(strings.Repeat("\n", min(i, 1)) + strings.Repeat("\t", depth))
		case !isClose(tokens, i):
			out.WriteByte(' ')
		}
		out.WriteString(p.text)
		if p.text == "{" {
			depth++
		}
	}
	if len(tokens) > 0 {
		out.WriteByte('\n')
	}
	return out.String()
}

// endsLine: does a line end between two tokens?
func endsLine(ahead, behind string) bool {
	return ahead == ";" || ahead == "{" || behind == "}" || ahead == "}" && behind != "else" && behind != "apply"
}

// isClose: does no blank stand ahead of a token?
func isClose(tokens []piece, i int) bool {
	ahead, behind := tokens[i-1].text, tokens[i].text
	switch {
	case strings.Contains("( [ !", ahead), strings.Contains(") ] , ;", behind):
		return true
	case ahead == "-":
		return !endsOperand(tokens[i-2].text)
	case behind == "(", behind == "[":
		return isName(ahead) || ahead == "size" || ahead == "pow"
	}
	return false
}

// endsOperand: can a number end with this token, so that a sign behind it stands between two?
func endsOperand(token string) bool { return isName(token) || isDigits(token) || token == ")" }
