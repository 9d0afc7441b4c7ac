package whole

import (
	"strconv"

	"qloom/api"
)

// Long numbers are read and written in chunks: as many digits as a word surely holds.
const (
	chunkDigits = 19
	chunkSize   = 10000000000000000000 // 10 to the chunkDigits
)

// Parse reads a number.
func Parse(text string) (Int, api.Fault) {
	end, ok := scanNumber(text)
	if !ok || end < len(text) {
		return Int{}, api.Fault{Code: api.ErrText, At: end}
	}
	if tooLong(text) {
		return Int{}, api.Fault{Code: api.ErrLong}
	}
	return readNumber(text), api.Fault{}
}

// scanNumber tells how many bytes of the text's beginning can begin a number,
// and whether they are one.
func scanNumber(text string) (int, bool) {
	if text != "" && text[0] == '0' {
		return 1, true
	}
	sign := signLength(text)
	digits := scanPositive(text[sign:])
	return sign + digits, digits > 0
}

func signLength(number string) int {
	if number != "" && number[0] == '-' {
		return 1
	}
	return 0
}

// scanPositive counts the digits at the text's beginning; none, if the first is 0.
func scanPositive(text string) int {
	if text == "" || text[0] == '0' {
		return 0
	}
	n := 0
	for n < len(text) && text[n] >= '0' && text[n] <= '9' {
		n++
	}
	return n
}

func tooLong(number string) bool {
	return len(number)-signLength(number) > api.MaxDigits
}

// readNumber reads what scanNumber has found to be a number.
func readNumber(text string) Int {
	sign := signLength(text)
	digits := text[sign:]
	var words []uint64
	for digits != "" {
		n := (len(digits)-1)%chunkDigits + 1
		words = appendChunk(words, readChunk(digits[:n]))
		digits = digits[n:]
	}
	return fromWords(sign > 0, words)
}

func readChunk(digits string) uint64 {
	var value uint64
	for i := range len(digits) {
		value = 10*value + uint64(digits[i]-'0')
	}
	return value
}

// appendChunk writes a chunk's digits behind those of the words' number.
func appendChunk(words []uint64, chunk uint64) []uint64 {
	out := make([]uint64, len(words)+1)
	out[0] = chunk
	out[len(words)] += addProduct(out[:len(words)], words, chunkSize)
	return trim(out)
}

// Text is the number as Parse reads it.
func (a Int) Text() string {
	if a.long == nil {
		return strconv.Itoa(a.small)
	}
	var out []byte
	if a.negative() {
		out = append(out, '-')
	}
	return string(appendDigits(out, a.long, chunkPowers(len(a.long)), false))
}

// chunkPowers has chunkSize, its square, the square of that and so on: so many
// that the last one's square is above every number of that many words.
func chunkPowers(words int) [][]uint64 {
	last := []uint64{chunkSize}
	powers := [][]uint64{last}
	for 2*len(last)-1 <= words {
		last = mulWords(last, last)
		powers = append(powers, last)
	}
	return powers
}

// appendDigits writes a number that is below the square of the last power (or
// below a chunk, if there is none). Halves of one length are quicker to divide
// than single chunks are to split off. With fill all noughts ahead are written.
func appendDigits(out []byte, words []uint64, powers [][]uint64, fill bool) []byte {
	if len(powers) == 0 {
		return appendWord(out, words, fill)
	}
	rest := powers[:len(powers)-1]
	high, low := divWords(words, powers[len(powers)-1])
	if len(high) == 0 && !fill {
		return appendDigits(out, low, rest, false)
	}
	out = appendDigits(out, high, rest, fill)
	return appendDigits(out, low, rest, true)
}

func appendWord(out []byte, words []uint64, fill bool) []byte {
	var chunk uint64
	if len(words) > 0 {
		chunk = words[0]
	}
	digits := strconv.FormatUint(chunk, 10)
	for i := len(digits); fill && i < chunkDigits; i++ {
		out = append(out, '0')
	}
	return append(out, digits...)
}
