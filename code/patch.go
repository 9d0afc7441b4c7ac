package code

import (
	"strings"

	"qloom/api"
)

// Patch is a code of rows and columns.
func Patch(rows, cols int) (api.Code, api.Fault) {
	if !isSide(rows) || !isSide(cols) || rows*cols > api.MaxCode {
		return api.Code{}, api.Fault{Code: api.ErrSize}
	}
	out := api.Code{N: rows * cols}
	add := func(letter string, from, length int) {
		behind := out.N - from - length
		text := "+" + strings.Repeat("I", from) + strings.Repeat(letter, length) + strings.Repeat("I", behind)
		out.Gens = append(out.Gens, text)
	}
	for row := range rows {
		for col := range cols - 1 {
			add("Z", row*cols+col, 2)
		}
	}
	for row := range rows - 1 {
		add("X", row*cols, 2*cols)
	}
	return out, api.Fault{}
}

// isSide: can a patch have so many rows or columns?
func isSide(n int) bool { return n >= 1 && n <= api.MaxCode }
