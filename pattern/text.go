package pattern

import (
	"strconv"
	"strings"

	"leakresponse/api"
	"leakresponse/notation"
)

const (
	longestText = 4000
	hexDigits   = "0123456789abcdef"
)

// Text returns the text of a pattern, or the error of Valid.
func Text(n api.Node) (string, api.Errno) {
	if e := Valid(n); e != api.OK {
		return "", e
	}
	return text(n), api.OK
}

func text(n api.Node) string {
	switch n.Op {
	case api.NodeSet:
		return setText(n.Ranges)
	case api.NodeSeq:
		out := ""
		for _, kid := range n.Kids {
			out += inner(kid, kid.Op == api.NodeChoice)
		}
		return out
	case api.NodeChoice:
		var out []string
		for _, kid := range n.Kids {
			out = append(out, text(kid))
		}
		return strings.Join(out, "|")
	}
	times := strconv.Itoa(n.Min)
	if n.Max != n.Min {
		times += "," + strconv.Itoa(n.Max)
	}
	return inner(n.Kids[0], n.Kids[0].Op != api.NodeSet) + "{" + times + "}"
}

func inner(kid api.Node, parentheses bool) string {
	if parentheses {
		return "(" + text(kid) + ")"
	}
	return text(kid)
}

func setText(l []api.Range) string {
	if len(l) == 1 && l[0].Low == l[0].High {
		return byteText(l[0].Low)
	}
	out := "["
	for _, r := range l {
		out += byteText(r.Low)
		if r.High != r.Low {
			out += "-" + byteText(r.High)
		}
	}
	return out + "]"
}

func byteText(c byte) string {
	if notation.Plain(rune(c)) {
		return string([]byte{c})
	}
	return string([]byte{'\\', 'x', hexDigits[c>>4], hexDigits[c&15]})
}

// Parse returns the valid pattern whose text this is.
func Parse(s string) (api.Node, api.Errno) {
	if len(s) > longestText {
		return api.Node{}, api.ErrLimit
	}
	n, ok := notation.Read(s)
	if !ok {
		return api.Node{}, api.ErrSyntax
	}
	if again, e := Text(n); e != api.OK || again != s {
		return api.Node{}, api.ErrSyntax
	}
	return n, api.OK
}
