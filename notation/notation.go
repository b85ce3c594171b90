// Package notation reads the texts of patterns, of any length, for the layers in which they stand.
package notation

import (
	"strconv"
	"strings"

	"leakresponse/api"
)

const (
	special   = "\\[](){}|-"
	hexDigits = "0123456789abcdef"
)

// Plain reports whether a sign stands for itself.
func Plain(r rune) bool {
	return r >= 33 && r <= 126 && !strings.ContainsRune(special, r)
}

// Joined returns a node of at least two kids, or the only one.
func Joined(op int, kids []api.Node) api.Node {
	if len(kids) == 1 {
		return kids[0]
	}
	return api.Node{Op: op, Kids: kids}
}

// Read reads a pattern. It reads more than the texts of patterns (needless parentheses, for example): they alone are the texts again of what is read.
func Read(s string) (api.Node, bool) {
	r := reader{s: s}
	n, ok := r.choice()
	if !ok || r.at < len(s) {
		return api.Node{}, false
	}
	return n, true
}

// reader reads the text of a pattern; each of its parts reports whether it could be read.
type reader struct {
	s  string
	at int
}

// next returns the sign that is to be read, 0 behind the end.
func (r *reader) next() byte {
	if r.at < len(r.s) {
		return r.s[r.at]
	}
	return 0
}

// take reads one sign, if it is the next one.
func (r *reader) take(c byte) bool {
	if r.at < len(r.s) && r.s[r.at] == c {
		r.at++
		return true
	}
	return false
}

func (r *reader) choice() (api.Node, bool) {
	return list(api.NodeChoice, r.sequence, func() bool { return r.take('|') })
}

func (r *reader) sequence() (api.Node, bool) {
	return list(api.NodeSeq, r.repeat, func() bool { return r.at < len(r.s) && r.next() != '|' && r.next() != ')' })
}

// list reads one item, and further ones as long as there are more.
func list(op int, item func() (api.Node, bool), more func() bool) (api.Node, bool) {
	var kids []api.Node
	for len(kids) == 0 || more() {
		kid, ok := item()
		if !ok {
			return api.Node{}, false
		}
		kids = append(kids, kid)
	}
	return Joined(op, kids), true
}

// repeat reads a set or a pattern in parentheses, and how often it stands there.
func (r *reader) repeat() (api.Node, bool) {
	n, ok := r.single()
	if !ok || !r.take('{') {
		return n, ok
	}
	low, ok := r.number()
	high := low
	if ok && r.take(',') {
		high, ok = r.number()
	}
	if !ok || !r.take('}') {
		return api.Node{}, false
	}
	return api.Node{Op: api.NodeRepeat, Kids: []api.Node{n}, Min: low, Max: high}, true
}

func (r *reader) single() (api.Node, bool) {
	switch {
	case r.take('('):
		n, ok := r.choice()
		return n, ok && r.take(')')
	case r.take('['):
		return r.set()
	}
	c, ok := r.sign()
	return api.Node{Op: api.NodeSet, Ranges: []api.Range{{Low: c, High: c}}}, ok
}

// set reads ranges up to the ] behind them.
func (r *reader) set() (api.Node, bool) {
	var l []api.Range
	for !r.take(']') {
		low, ok := r.sign()
		high := low
		if ok && r.take('-') {
			high, ok = r.sign()
		}
		if !ok {
			return api.Node{}, false
		}
		l = append(l, api.Range{Low: low, High: high})
	}
	return api.Node{Op: api.NodeSet, Ranges: l}, true
}

// sign reads the text of one byte.
func (r *reader) sign() (byte, bool) {
	c := r.next()
	if Plain(rune(c)) {
		r.at++
		return c, true
	}
	rest := r.s[r.at:]
	if len(rest) < 4 || rest[:2] != "\\x" {
		return 0, false
	}
	high, low := strings.IndexByte(hexDigits, rest[2]), strings.IndexByte(hexDigits, rest[3])
	r.at += 4
	return byte(high<<4 | low), high >= 0 && low >= 0
}

func (r *reader) number() (int, bool) {
	from := r.at
	for r.next() >= '0' && r.next() <= '9' {
		r.at++
	}
	n, err := strconv.Atoi(r.s[from:r.at])
	return n, err == nil
}
