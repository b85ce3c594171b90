package coding

const (
	smallDigits = "0123456789abcdef"
	greatDigits = "0123456789ABCDEF"
	signs       = "ABCDEFGHIJKLMNOPQRSTUVWXYZabcdefghijklmnopqrstuvwxyz0123456789+/"
)

func isDigit(c byte) bool { return c >= '0' && c <= '9' }

func isLetter(c byte) bool { return c >= 'A' && c <= 'Z' || c >= 'a' && c <= 'z' }

func isHex(c byte) bool { return isDigit(c) || c >= 'a' && c <= 'f' || c >= 'A' && c <= 'F' }

func isSign(c byte) bool { return isDigit(c) || isLetter(c) || c == '+' || c == '/' }

func isVisible(c byte) bool { return c >= 33 && c <= 126 }

// hexValue is specified for hexadecimal digits.
func hexValue(c byte) byte {
	switch {
	case isDigit(c):
		return c - '0'
	case c >= 'a':
		return c - 'a' + 10
	}
	return c - 'A' + 10
}

// hexByte reads the byte that the first two signs make.
func hexByte(s string) (byte, bool) {
	if len(s) < 2 || !isHex(s[0]) || !isHex(s[1]) {
		return 0, false
	}
	return hexValue(s[0])<<4 | hexValue(s[1]), true
}

// signValue is specified for signs of CodingBase64.
func signValue(c byte) byte {
	switch {
	case c >= 'A' && c <= 'Z':
		return c - 'A'
	case c >= 'a' && c <= 'z':
		return c - 'a' + 26
	case isDigit(c):
		return c - '0' + 52
	case c == '+':
		return 62
	}
	return 63
}

func toHex(b []byte) []byte {
	out := make([]byte, 0, 2*len(b))
	for _, c := range b {
		out = append(out, smallDigits[c>>4], smallDigits[c&15])
	}
	return out
}

func fromHex(s string) ([]byte, bool) {
	out := make([]byte, 0, len(s)/2)
	for ; s != ""; s = s[2:] {
		c, ok := hexByte(s)
		if !ok {
			return nil, false
		}
		out = append(out, c)
	}
	return out, true
}

func toBase64(b []byte) []byte {
	var out []byte
	for ; len(b) >= 3; b = b[3:] {
		out = append(out, signs[b[0]>>2], signs[b[0]&3<<4|b[1]>>4], signs[b[1]&15<<2|b[2]>>6], signs[b[2]&63])
	}
	switch len(b) {
	case 1:
		out = append(out, signs[b[0]>>2], signs[b[0]&3<<4], '=', '=')
	case 2:
		out = append(out, signs[b[0]>>2], signs[b[0]&3<<4|b[1]>>4], signs[b[1]&15<<2], '=')
	}
	return out
}

func fromBase64(s string) ([]byte, bool) {
	if len(s)%4 != 0 {
		return nil, false
	}
	var out []byte
	for ; s != ""; s = s[4:] {
		n := groupSigns(s[:4])
		if n < 4 && len(s) > 4 {
			return nil, false
		}
		group, ok := groupBytes(s[:n])
		if !ok {
			return nil, false
		}
		out = append(out, group...)
	}
	return out, true
}

// groupSigns returns how many signs of a group stand in front of its = (at most two of them).
func groupSigns(s string) int {
	switch {
	case s[3] != '=':
		return 4
	case s[2] != '=':
		return 3
	}
	return 2
}

// groupBytes returns the bytes of the two, three or four signs of a group.
func groupBytes(s string) ([]byte, bool) {
	bits := 0
	for i := range 4 {
		bits <<= 6
		if i >= len(s) {
			continue
		}
		if !isSign(s[i]) {
			return nil, false
		}
		bits |= int(signValue(s[i]))
	}
	all := []byte{byte(bits >> 16), byte(bits >> 8), byte(bits)}
	for _, c := range all[len(s)-1:] {
		if c != 0 {
			return nil, false
		}
	}
	return all[:len(s)-1], true
}

func toPercent(b []byte) []byte {
	var out []byte
	for _, c := range b {
		if isDigit(c) || isLetter(c) || c == '-' || c == '.' || c == '_' || c == '~' {
			out = append(out, c)
		} else {
			out = append(out, '%', greatDigits[c>>4], greatDigits[c&15])
		}
	}
	return out
}

func percentByte(rest string) (byte, int, bool) {
	c, ok := hexByte(rest)
	return c, 2, ok
}

func toEscape(b []byte) []byte {
	var out []byte
	for _, c := range b {
		switch {
		case c == '\n':
			out = append(out, '\\', 'n')
		case c == '\r':
			out = append(out, '\\', 'r')
		case c == '\t':
			out = append(out, '\\', 't')
		case c == '\\':
			out = append(out, '\\', '\\')
		case c < 32 || c >= 127:
			out = append(out, '\\', 'x', smallDigits[c>>4], smallDigits[c&15])
		default:
			out = append(out, c)
		}
	}
	return out
}

func escapeByte(rest string) (byte, int, bool) {
	if rest == "" {
		return 0, 0, false
	}
	switch rest[0] {
	case 'n':
		return '\n', 1, true
	case 'r':
		return '\r', 1, true
	case 't':
		return '\t', 1, true
	case '\\':
		return '\\', 1, true
	case 'x':
		c, ok := hexByte(rest[1:])
		return c, 3, ok
	}
	return 0, 0, false
}
