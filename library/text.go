package library

import (
	"strconv"
	"strings"

	"leakresponse/api"
	"leakresponse/notation"
	"leakresponse/pattern"
	"leakresponse/signs"
)

const hexDigits = "0123456789abcdef"

// Text returns the text of a library, or the error of Valid.
func Text(l []api.Kind) (string, api.Errno) {
	if e := Valid(l); e != api.OK {
		return "", e
	}
	out := ""
	for _, k := range l {
		out += line(k)
	}
	return out, api.OK
}

// line is specified for valid kinds.
func line(k api.Kind) string {
	text, _ := pattern.Text(k.Pattern)
	out := k.Name + " " + text
	if k.Whole {
		out += " whole"
	}
	number := func(name string, n int) {
		if n != 0 {
			out += " " + name + " " + strconv.Itoa(n)
		}
	}
	number("check", k.Check)
	number("entropy", k.Entropy)
	number("near", k.Near)
	for _, w := range k.Words {
		out += " word " + hexText(w)
	}
	return out + "\n"
}

func hexText(s string) string {
	var out []byte
	for i := range len(s) {
		out = append(out, hexDigits[s[i]>>4], hexDigits[s[i]&15])
	}
	return string(out)
}

// hexBytes reads more than hexText writes: only what it writes is the text again of what is read.
func hexBytes(s string) (string, bool) {
	var out []byte
	for ; len(s) >= 2; s = s[2:] {
		c, err := strconv.ParseUint(s[:2], 16, 8)
		if err != nil {
			return "", false
		}
		out = append(out, byte(c))
	}
	return string(out), s == ""
}

// Parse returns the library whose text this is.
func Parse(s string) ([]api.Kind, api.Errno) {
	if len(s) > api.MaxBytes {
		return nil, api.ErrLimit
	}
	var l []api.Kind
	for text := range strings.Lines(s) {
		k, ok := readLine(strings.TrimSuffix(text, "\n"))
		if !ok || len(l) == api.MaxKinds {
			return nil, api.ErrSyntax
		}
		l = append(l, k)
	}
	// Lines are read in more forms than they are written in: words in another order, for example.
	if again, e := Text(l); e != api.OK || again != s {
		return nil, api.ErrSyntax
	}
	return l, api.OK
}

func readLine(s string) (api.Kind, bool) {
	words := strings.Split(s, " ")
	if len(words) < 2 {
		return api.Kind{}, false
	}
	n, ok := notation.Read(words[1])
	k := api.Kind{Name: words[0], Pattern: n}
	for words = words[2:]; ok && len(words) > 0; {
		if words[0] == "whole" {
			k.Whole = true
			words = words[1:]
			continue
		}
		if len(words) < 2 {
			return api.Kind{}, false
		}
		ok = readField(&k, words[0], words[1])
		words = words[2:]
	}
	return k, ok
}

func readField(k *api.Kind, name, value string) bool {
	number := func(at *int) bool {
		n, ok := signs.Number(value)
		*at = n
		return ok
	}
	switch name {
	case "check":
		return number(&k.Check)
	case "entropy":
		return number(&k.Entropy)
	case "near":
		return number(&k.Near)
	case "word":
		w, ok := hexBytes(value)
		k.Words = append(k.Words, w)
		return ok
	}
	return false
}
