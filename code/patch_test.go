package code_test

import (
	"fmt"
	"math"
	"strings"
	"testing"

	"qloom/api"
	"qloom/code"
)

// patchOf is the code of a patch, letter by letter.
func patchOf(rows, cols int) api.Code {
	c := api.Code{N: rows * cols}
	add := func(letter byte, has func(row, col int) bool) {
		text := []byte("+")
		for row := range rows {
			for col := range cols {
				text = append(text, 'I')
				if has(row, col) {
					text[len(text)-1] = letter
				}
			}
		}
		c.Gens = append(c.Gens, string(text))
	}
	for r := range rows {
		for left := 0; left+1 < cols; left++ {
			add('Z', func(row, col int) bool { return row == r && (col == left || col == left+1) })
		}
	}
	for upper := 0; upper+1 < rows; upper++ {
		add('X', func(row, col int) bool { return row == upper || row == upper+1 })
	}
	return c
}

func TestPatchesThatAreKnown(t *testing.T) {
	for _, tried := range []struct {
		rows, cols int
		want       string
	}{
		{1, 1, ""}, {3, 1, "+XXI +IXX"}, {1, 3, "+ZZI +IZZ"}, {1, 2, "+ZZ"}, {2, 1, "+XX"},
		{2, 2, "+ZZII +IIZZ +XXXX"}, {2, 3, "+ZZIIII +IZZIII +IIIZZI +IIIIZZ +XXXXXX"},
		{3, 2, "+ZZIIII +IIZZII +IIIIZZ +XXXXII +IIXXXX"},
	} {
		c := patch(t, tried.rows, tried.cols)
		equal(t, "Patch", []any{c.N, c.Gens}, []any{tried.rows * tried.cols, strings.Fields(tried.want)})
	}
	equal(t, "of nine", patch(t, 3, 3), nine)
}

// Every size that may be, and those around them.
func TestPatchesOfAllSizes(t *testing.T) {
	may := 0
	for rows := -2; rows <= 14; rows++ {
		for cols := -2; cols <= 14; cols++ {
			c, f := code.Patch(rows, cols)
			if rows < 1 || rows > 12 || cols < 1 || cols > 12 || rows*cols > 12 {
				equal(t, fmt.Sprint("Patch of ", rows, " and ", cols), []any{c, f}, []any{api.Code{}, fault(api.ErrSize, 0)})
				continue
			}
			may++
			equal(t, fmt.Sprint("Patch of ", rows, " and ", cols), []any{c, f}, []any{patchOf(rows, cols), none})
			equal(t, "a code", code.Check(c), none)
			equal(t, "one less than qubits", len(c.Gens), c.N-1)
			encodes(t, c)
		}
	}
	equal(t, "sizes that may be", may, 35)
}

func TestPatchesOfOddSizes(t *testing.T) {
	odd := []int{math.MinInt64, math.MinInt64 + 1, -1 << 32, -12, -3, -1, 0, 1, 2, 12, 13, 1 << 31, 1 << 32, 1 << 62, 1<<62 + 1, math.MaxInt64}
	for _, rows := range odd {
		for _, cols := range odd {
			c, f := code.Patch(rows, cols)
			if f == none {
				equal(t, "a size that may be", rows > 0 && cols > 0 && rows <= 12 && cols <= 12 && rows*cols <= 12, true)
			} else {
				equal(t, fmt.Sprint("Patch of ", rows, " and ", cols), []any{c, f}, []any{api.Code{}, fault(api.ErrSize, 0)})
			}
		}
	}
}

// What follows: the distance of a Patch is the lesser of its rows and columns.
func TestDistancesOfPatches(t *testing.T) {
	for rows := 1; rows <= 12; rows++ {
		for cols := 1; rows*cols <= 12; cols++ {
			c := patch(t, rows, cols)
			least, f := code.Distance(c)
			want := []any{min(rows, cols), none}
			if rows*cols > 9 {
				want = []any{0, fault(api.ErrMany, 0)}
			}
			equal(t, fmt.Sprint("Distance of Patch of ", rows, " and ", cols), []any{least, f}, want)
		}
	}
}

// Patches mend what they should, and their chances are those of all errors.
func TestPatchesMend(t *testing.T) {
	t.Parallel()
	for rows := 1; rows <= 9; rows++ {
		for cols := 1; rows*cols <= 9; cols++ {
			c := patch(t, rows, cols)
			if c.N <= 7 {
				decodes(t, c)
			}
			if c.N <= 5 {
				failsSummed(t, c, "1/12")
			}
			n := noise(c.N)
			measuresAll(t, c, &n)
		}
	}
}
