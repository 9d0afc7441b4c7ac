package synth

import (
	"qloom/api"
	"qloom/ring"
)

// mostDepth is how deep an entry may be.
const mostDepth = 12

// matrix has a row for each basis state: the amplitudes that are left of it.
type matrix [][]ring.Num

// read reads a matrix of one or two qubits.
func read(m [][]string) (matrix, api.Fault) {
	if len(m) != 2 && len(m) != 4 {
		return nil, api.Fault{Code: api.ErrSize}
	}
	var out matrix
	for at, texts := range m {
		row, code := readRow(texts, len(m))
		if code != 0 {
			return nil, api.Fault{Code: code, At: at}
		}
		out = append(out, row)
	}
	return out, api.Fault{}
}

// readRow reads a row of so many entries; with the code of its first fault, or 0.
func readRow(texts []string, size int) ([]ring.Num, int) {
	if len(texts) != size {
		return nil, api.ErrSize
	}
	var row []ring.Num
	for _, text := range texts {
		entry, fault := ring.Parse(text)
		switch {
		case fault.Code != 0:
			return nil, api.ErrText
		case !entry.Even():
			return nil, api.ErrRing
		}
		row = append(row, entry)
	}
	return row, 0
}

// check is the code of the fault of a matrix that is to be some circuit's, or 0.
func (m matrix) check() int {
	for _, row := range m {
		for _, entry := range row {
			if entry.Depth() > mostDepth {
				return api.ErrMany
			}
		}
	}
	if !m.unitary() {
		return api.ErrUnitary
	}
	return 0
}

// unitary: are the rows of norm 1, and upright to each other?
func (m matrix) unitary() bool {
	for i, row := range m {
		if !across(row, row).Same(ring.Root(0)) {
			return false
		}
		for _, other := range m[:i] {
			if !across(row, other).Zero() {
				return false
			}
		}
	}
	return true
}

// across is the sum of a row's entries times the mirrors of another's.
func across(row, other []ring.Num) ring.Num {
	var out ring.Num
	for y := range row {
		out = out.Add(row[y].Mul(other[y].Conj()))
	}
	return out
}
