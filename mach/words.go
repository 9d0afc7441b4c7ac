package mach

import (
	"strconv"
	"strings"
)

// Bounds of words, in bytes.
const (
	mostLabel  = 20
	mostDigits = 5
)

// isMark: is it one word, a label with what ends it?
func isMark(words []string) bool {
	label, ended := strings.CutSuffix(words[0], labelEnd)
	return len(words) == 1 && ended && isLabel(label)
}

// isStep: is it an instruction's word, and operands of its form?
func isStep(words []string) bool {
	number, operands := numberOf(words[0]), words[1:]
	if number < 0 || len(operands) != len(shapes[number].operands) {
		return false
	}
	for i, operand := range shapes[number].operands {
		if operand == 'a' && !isLabel(operands[i]) || operand != 'a' && !isNumber(operands[i]) {
			return false
		}
	}
	return true
}

// numberOf is the number of the instruction of that word; below 0, if there is none.
func numberOf(word string) int {
	for number, one := range shapes {
		if one.word == word {
			return number
		}
	}
	return -1
}

// isLabel: is it a letter, and letters and digits?
func isLabel(word string) bool {
	for i, sign := range word {
		if !isLetter(sign) && (i == 0 || !isDigit(sign)) {
			return false
		}
	}
	return word != "" && len(word) <= mostLabel
}

// isNumber: are there digits, not too many, and no needless nought?
func isNumber(word string) bool {
	for _, sign := range word {
		if !isDigit(sign) {
			return false
		}
	}
	return word == "0" || word != "" && word[0] != '0' && len(word) <= mostDigits
}

func isLetter(sign rune) bool { return sign >= 'a' && sign <= 'z' || sign >= 'A' && sign <= 'Z' }

func isDigit(sign rune) bool { return sign >= '0' && sign <= '9' }

// valueOf is the number that a word is, which must be one.
func valueOf(word string) int {
	n, _ := strconv.Atoi(word)
	return n
}
