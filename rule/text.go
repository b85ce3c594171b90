package rule

import (
	"strconv"
	"strings"

	"leakresponse/api"
	"leakresponse/signs"
)

const (
	wordReal  = "real"
	wordFalse = "false"
	behind    = ": "
	when      = " if "
	and       = " and "
	or        = " or "
	not       = "not ("
)

// word returns the word of a term that has none of Kids.
func word(op int) string {
	switch op {
	case api.TermKind:
		return "kind"
	case api.TermPath:
		return "path"
	case api.TermEnds:
		return "ends"
	case api.TermSource:
		return "source"
	case api.TermDepth:
		return "depth"
	case api.TermLength:
		return "length"
	case api.TermBefore:
		return "before"
	case api.TermFingerprint:
		return "print"
	}
	return ""
}

// Text returns the texts of rules, or the error of Valid.
func Text(l []api.Rule) (string, api.Errno) {
	if e := Valid(l); e != api.OK {
		return "", e
	}
	out := ""
	for _, r := range l {
		verdict := wordReal
		if r.Verdict == api.VerdictFalse {
			verdict = wordFalse
		}
		out += r.Name + behind + verdict + when + termText(r.When) + "\n"
	}
	return out, api.OK
}

// termText is specified for valid conditions.
func termText(c api.Term) string {
	switch c.Op {
	case api.TermKind, api.TermPath, api.TermEnds:
		return word(c.Op) + ` "` + c.Text + `"`
	case api.TermFingerprint:
		return word(c.Op) + " " + strconv.FormatUint(c.Print, 10)
	case api.TermNot:
		return not + termText(c.Kids[0]) + ")"
	case api.TermAnd, api.TermOr:
		var kids []string
		for _, kid := range c.Kids {
			kids = append(kids, termText(kid))
		}
		between := and
		if c.Op == api.TermOr {
			between = or
		}
		return "(" + strings.Join(kids, between) + ")"
	}
	return word(c.Op) + " " + strconv.Itoa(c.Number)
}

// Parse returns the rules whose text this is.
func Parse(s string) ([]api.Rule, api.Errno) {
	if len(s) > api.MaxBytes {
		return nil, api.ErrLimit
	}
	var l []api.Rule
	for line := range strings.Lines(s) {
		r, ok := readRule(strings.TrimSuffix(line, "\n"))
		if !ok || len(l) == api.MaxRules {
			return nil, api.ErrSyntax
		}
		l = append(l, r)
	}
	// Rules are read in more forms than they are written in: numbers with zeros in front, for example.
	if again, e := Text(l); e != api.OK || again != s {
		return nil, api.ErrSyntax
	}
	return l, api.OK
}

func readRule(s string) (api.Rule, bool) {
	name, rest, _ := strings.Cut(s, behind)
	verdict, rest, _ := strings.Cut(rest, when)
	r := api.Rule{Name: name, Verdict: api.VerdictReal}
	if verdict == wordFalse {
		r.Verdict = api.VerdictFalse
	}
	p := &reader{rest: rest}
	c, ok := p.term()
	r.When = c
	return r, ok && p.rest == ""
}

// reader reads the text of a condition from its front.
type reader struct {
	rest string
}

func (p *reader) take(s string) bool {
	rest, ok := strings.CutPrefix(p.rest, s)
	if ok {
		p.rest = rest
	}
	return ok
}

func (p *reader) term() (api.Term, bool) {
	switch {
	case p.take(not):
		c, ok := p.term()
		return api.Term{Op: api.TermNot, Kids: []api.Term{c}}, ok && p.take(")")
	case p.take("("):
		return p.list()
	}
	for op := api.TermKind; op < api.TermNot; op++ {
		if p.take(word(op) + " ") {
			return p.field(op)
		}
	}
	return api.Term{}, false
}

// list reads at least two conditions with the same word between them.
func (p *reader) list() (api.Term, bool) {
	first, ok := p.term()
	c := api.Term{Op: api.TermAnd, Kids: []api.Term{first}}
	between := and
	if !strings.HasPrefix(p.rest, and) {
		c.Op, between = api.TermOr, or
	}
	for ok && p.take(between) {
		var kid api.Term
		kid, ok = p.term()
		c.Kids = append(c.Kids, kid)
	}
	return c, ok && p.take(")")
}

// field reads what stands behind the word of a term.
func (p *reader) field(op int) (api.Term, bool) {
	c := api.Term{Op: op}
	if p.take(`"`) {
		text, rest, ok := strings.Cut(p.rest, `"`)
		c.Text, p.rest = text, rest
		return c, ok
	}
	end := strings.IndexFunc(p.rest, func(r rune) bool { return r < '0' || r > '9' })
	if end < 0 {
		end = len(p.rest)
	}
	digits := p.rest[:end]
	p.rest = p.rest[end:]
	if op == api.TermFingerprint {
		n, err := strconv.ParseUint(digits, 10, 64)
		c.Print = n
		return c, err == nil
	}
	n, ok := signs.Number(digits)
	c.Number = n
	return c, ok
}
