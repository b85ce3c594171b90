package archive

import (
	"bytes"
	"iter"
	"slices"
)

// A piece of the form 1 is a row of equal bytes, or bytes as they are.
const (
	leastRow   = 3
	longestRow = 130
	mostPlain  = 128
	rowCode    = 125 // what the first byte of a row has more than the row is long
)

// shrink returns Data in the form 1.
func shrink(b []byte) []byte {
	var out []byte
	kept := 0 // where the bytes that are still to be written as they are begin
	flush := func(to int) {
		for part := range slices.Chunk(b[kept:to], mostPlain) {
			out = append(out, byte(len(part)-1))
			out = append(out, part...)
		}
	}
	for from, to := range rows(b) {
		if to-from < leastRow {
			continue
		}
		flush(from)
		for from < to && to-from >= leastRow {
			n := min(to-from, longestRow)
			out = append(out, byte(n+rowCode), b[from])
			from += n
		}
		kept = from
	}
	flush(len(b))
	return out
}

// rows hands out the greatest rows of equal bytes.
func rows(b []byte) iter.Seq2[int, int] {
	return func(yield func(int, int) bool) {
		for from := 0; from < len(b); {
			to := from + 1
			for to < len(b) && b[to] == b[from] {
				to++
			}
			if !yield(from, to) {
				return
			}
			from = to
		}
	}
}

// grow reads Data of a size in the form 1, and returns the bytes behind it.
func grow(b []byte, size int) ([]byte, []byte, bool) {
	var out []byte
	for len(out) < size {
		if len(b) < 2 {
			return nil, nil, false
		}
		n := int(b[0])
		if n >= mostPlain {
			out = append(out, bytes.Repeat(b[1:2], n-rowCode)...)
			b = b[2:]
			continue
		}
		if len(b) < n+2 {
			return nil, nil, false
		}
		out = append(out, b[1:n+2]...)
		b = b[n+2:]
	}
	return out, b, len(out) == size
}
