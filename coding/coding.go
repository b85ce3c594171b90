// Package coding is layer 1: bytes as text, and runs that may be encodings (shared/doc/01-coding.md).
package coding

import "leakresponse/api"

// Valid reports whether there is such a coding.
func Valid(coding int) bool {
	return coding >= api.CodingHex && coding <= api.CodingEscape
}

// Encode returns the encoding of bytes.
func Encode(coding int, b []byte) (string, api.Errno) {
	if !Valid(coding) {
		return "", api.ErrInvalid
	}
	if len(b) > api.MaxBytes {
		return "", api.ErrLimit
	}
	switch coding {
	case api.CodingHex:
		return string(toHex(b)), api.OK
	case api.CodingBase64:
		return string(toBase64(b)), api.OK
	case api.CodingPercent:
		return string(toPercent(b)), api.OK
	}
	return string(toEscape(b)), api.OK
}

// Decode returns the bytes of a text.
func Decode(coding int, s string) ([]byte, api.Errno) {
	if !Valid(coding) {
		return nil, api.ErrInvalid
	}
	if len(s) > 4*api.MaxBytes {
		return nil, api.ErrLimit
	}
	b, ok := decoded(coding, s)
	if !ok {
		return nil, api.ErrCoding
	}
	return b, api.OK
}

func decoded(coding int, s string) ([]byte, bool) {
	switch coding {
	case api.CodingHex:
		return fromHex(s)
	case api.CodingBase64:
		return fromBase64(s)
	case api.CodingPercent:
		return fromMarked(s, '%', percentByte)
	}
	return fromMarked(s, '\\', escapeByte)
}

// fromMarked reads a text in which read finds the byte that stands behind a mark, and how many signs it takes.
func fromMarked(s string, mark byte, read func(rest string) (byte, int, bool)) ([]byte, bool) {
	var out []byte
	for i := 0; i < len(s); i++ {
		if s[i] != mark {
			out = append(out, s[i])
			continue
		}
		c, n, ok := read(s[i+1:])
		if !ok {
			return nil, false
		}
		out = append(out, c)
		i += n
	}
	return out, true
}
