package coding

import (
	"cmp"
	"iter"
	"slices"

	"leakresponse/api"
)

// Runs returns the runs of a text, ascending by From, then by Coding.
func Runs(b []byte) []api.Run {
	if len(b) > api.MaxBytes {
		return nil
	}
	var out []api.Run
	add := func(coding, from, to int) {
		if to-from >= api.MinRun {
			out = append(out, api.Run{Coding: coding, From: from, To: to})
		}
	}
	for from, to := range parts(b, isHex) {
		add(api.CodingHex, from, to-(to-from)%2)
	}
	for from, to := range parts(b, isSign) {
		to = base64End(b, from, to)
		if _, ok := fromBase64(string(b[from:to])); ok {
			add(api.CodingBase64, from, to)
		}
	}
	for from, to := range parts(b, isVisible) {
		for _, coding := range []int{api.CodingPercent, api.CodingEscape} {
			if changes(coding, string(b[from:to])) {
				add(coding, from, to)
			}
		}
	}
	slices.SortFunc(out, func(x, y api.Run) int {
		return cmp.Or(cmp.Compare(x.From, y.From), cmp.Compare(x.Coding, y.Coding))
	})
	return out
}

// parts hands out the greatest parts of bytes for which is holds.
func parts(b []byte, is func(byte) bool) iter.Seq2[int, int] {
	return func(yield func(int, int) bool) {
		for from := 0; from < len(b); from++ {
			if !is(b[from]) {
				continue
			}
			to := from + 1
			for to < len(b) && is(b[to]) {
				to++
			}
			if !yield(from, to) {
				return
			}
			from = to
		}
	}
}

// base64End returns where the run of a greatest part of signs ends.
func base64End(b []byte, from, to int) int {
	rest := (to - from) % 4
	behind := string(b[to:min(to+2, len(b))])
	if rest == 2 && behind == "==" {
		return to + 2
	}
	if rest == 3 && behind != "" && behind[0] == '=' {
		return to + 1
	}
	return to - rest
}

// changes reports whether a text can be decoded, to another text.
func changes(coding int, s string) bool {
	b, ok := decoded(coding, s)
	return ok && string(b) != s
}
