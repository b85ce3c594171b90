package coding

import (
	"bytes"
	"encoding/base64"
	"encoding/hex"
	"slices"
	"strings"
	"testing"

	"leakresponse/api"
)

var all = []int{api.CodingHex, api.CodingBase64, api.CodingPercent, api.CodingEscape}

// P1.1
func TestEncode(t *testing.T) {
	for _, c := range []struct {
		coding int
		b, s   string
	}{
		{api.CodingHex, "", ""}, {api.CodingHex, "Az\x00\xff", "417a00ff"},
		{api.CodingBase64, "", ""}, {api.CodingBase64, "Az", "QXo="}, {api.CodingBase64, "A", "QQ=="}, {api.CodingBase64, "Az0", "QXow"}, {api.CodingBase64, "\xff\xef\xbe\x00", "/+++AA=="},
		{api.CodingPercent, "aZ09-._~", "aZ09-._~"}, {api.CodingPercent, " %\xab\x00", "%20%25%AB%00"},
		{api.CodingEscape, "\n\r\t\\\x00\x1f ~\x7f\xff", "\\n\\r\\t\\\\\\x00\\x1f ~\\x7f\\xff"},
	} {
		if s, e := Encode(c.coding, []byte(c.b)); s != c.s || e != api.OK {
			t.Errorf("Encode(%d, %q) = %q, %d", c.coding, c.b, s, e)
		}
		if b, e := Decode(c.coding, c.s); string(b) != c.b || e != api.OK {
			t.Errorf("Decode(%d, %q) = %q, %d", c.coding, c.s, b, e)
		}
	}
	big := make([]byte, api.MaxBytes+1)
	for _, coding := range all {
		if s, e := Encode(coding, big); s != "" || e != api.ErrLimit {
			t.Error(coding, len(s), e)
		}
		s, e := Encode(coding, big[1:])
		if b, f := Decode(coding, s); e != api.OK || f != api.OK || !bytes.Equal(b, big[1:]) {
			t.Error(coding, e, f)
		}
	}
	for _, coding := range []int{-1, 0, 5, 1 << 40} {
		_, e := Encode(coding, big)
		_, f := Decode(coding, strings.Repeat("a", 4*api.MaxBytes+1))
		if Valid(coding) || e != api.ErrInvalid || f != api.ErrInvalid {
			t.Error(coding, e, f)
		}
	}
	if !Valid(1) || !Valid(4) {
		t.Error("Valid")
	}
}

// P1.2
func TestDecode(t *testing.T) {
	if b, e := Decode(api.CodingHex, "fFAa"); string(b) != "\xff\xaa" || e != api.OK {
		t.Error(b, e)
	}
	for coding, l := range map[int][]string{
		api.CodingHex:     {"a", "abc", "ag", "a ", " aa"},
		api.CodingBase64:  {"Q", "QQ", "QQQ", "QQ=", "=", "====", "Q===", "QR==", "QXp=", "QQ==QQQQ", "QXo=QXo=", "Q=Q=", "QQ=Q", "QX-w"},
		api.CodingPercent: {"%", "%4", "a%g0", "%0g", "%%"},
		api.CodingEscape:  {"\\", "\\N", "\\x", "\\x0", "\\x0g", "\\\\\\"},
	} {
		for _, s := range l {
			if b, e := Decode(coding, s); len(b) != 0 || e != api.ErrCoding {
				t.Errorf("Decode(%d, %q) = %q, %d", coding, s, b, e)
			}
		}
	}
	long := strings.Repeat("%", 4*api.MaxBytes)
	if _, e := Decode(api.CodingPercent, long); e != api.ErrCoding {
		t.Error(e)
	}
	if _, e := Decode(api.CodingPercent, long+"%"); e != api.ErrLimit {
		t.Error(e)
	}
}

// P1.3
func TestRuns(t *testing.T) {
	for s, want := range map[string][]api.Run{
		"":               nil,
		"abcdef0":        nil,
		"abcdef012":      {{Coding: 1, From: 0, To: 8}, {Coding: 2, From: 0, To: 8}},
		"key=%41%42%43":  {{Coding: 3, From: 0, To: 13}},
		"-abcdefghij-":   {{Coding: 2, From: 1, To: 9}},
		" QUJDREVGRA== ": {{Coding: 2, From: 1, To: 13}},
		" QUJDREVGRA= ":  {{Coding: 2, From: 1, To: 9}},
		" QUJDREVGRB== ": nil,
		" QUJDREVGREU=":  {{Coding: 2, From: 1, To: 13}},
		" QUJDREVGREV=":  nil,
		" QUJDREVG= ":    {{Coding: 2, From: 1, To: 9}},
		"%41 %41bcde":    nil,
		"%41%4 %41bcdef": {{Coding: 3, From: 6, To: 14}},
		"a\\nb%20c":      {{Coding: 3, From: 0, To: 8}, {Coding: 4, From: 0, To: 8}},
		"a\\nb%20c\\":    {{Coding: 3, From: 0, To: 9}},
		"0011223344 00112233": {{Coding: 1, From: 0, To: 10}, {Coding: 2, From: 0, To: 8},
			{Coding: 1, From: 11, To: 19}, {Coding: 2, From: 11, To: 19}},
		"a\x7f%41bcdef\x20%41bcdef": {{Coding: 3, From: 2, To: 10}, {Coding: 3, From: 11, To: 19}},
	} {
		if got := Runs([]byte(s)); !slices.Equal(got, want) {
			t.Errorf("Runs(%q) = %v", s, got)
		}
	}
	if got := Runs(bytes.Repeat([]byte("a"), api.MaxBytes+1)); len(got) != 0 {
		t.Error(len(got))
	}
	if got := Runs(bytes.Repeat([]byte("a"), api.MaxBytes)); len(got) != 2 {
		t.Error(got)
	}
}

// P1.3, consequences: runs ascend, do not overlap within a coding, and can be decoded.
func TestRunsHold(t *testing.T) {
	x := uint32(7)
	for range 2000 {
		b := make([]byte, 40)
		for i := range b {
			x = x*1664525 + 1013904223
			b[i] = "ab01fgXY+/=%%\\nx \x80"[int(x>>8)%18]
		}
		ends := map[int]int{}
		last := api.Run{From: -1}
		for _, r := range Runs(b) {
			if _, e := Decode(r.Coding, string(b[r.From:r.To])); e != api.OK || r.From < ends[r.Coding] || r.To-r.From < api.MinRun {
				t.Fatalf("%q: %v", b, r)
			}
			if r.From < last.From || r.From == last.From && r.Coding <= last.Coding {
				t.Fatalf("%q: %v behind %v", b, r, last)
			}
			ends[r.Coding], last = r.To, r
		}
	}
}

// P1.1 and P1.2: every byte and every sign, against another library.
func TestAllBytes(t *testing.T) {
	r := uint32(3)
	for n := range 500 {
		b := make([]byte, n%7)
		for i := range b {
			r = r*1664525 + 1013904223
			b[i] = byte(r >> 24)
		}
		h, _ := Encode(api.CodingHex, b)
		s, _ := Encode(api.CodingBase64, b)
		if h != hex.EncodeToString(b) || s != base64.StdEncoding.EncodeToString(b) {
			t.Fatal(b, h, s)
		}
		upper, e := Decode(api.CodingHex, strings.ToUpper(h))
		if back, f := Decode(api.CodingBase64, s); e != api.OK || f != api.OK || !bytes.Equal(back, b) || !bytes.Equal(upper, b) {
			t.Fatal(b, e, f)
		}
	}
	for c := range 256 {
		b := []byte{byte(c)}
		percent, _ := Encode(api.CodingPercent, b)
		plain := strings.IndexByte("ABCDEFGHIJKLMNOPQRSTUVWXYZabcdefghijklmnopqrstuvwxyz0123456789-._~", byte(c)) >= 0
		if (percent == string(b)) != plain || !plain && percent != "%"+strings.ToUpper(hex.EncodeToString(b)) {
			t.Error(c, percent)
		}
		escape, _ := Encode(api.CodingEscape, b)
		if plain := c >= 32 && c < 127 && c != 92; (escape == string(b)) != plain {
			t.Error(c, escape)
		}
		for _, coding := range all {
			s, _ := Encode(coding, b)
			if back, e := Decode(coding, s); e != api.OK || !bytes.Equal(back, b) {
				t.Error(c, coding, e)
			}
		}
		// Whether the byte is part of each of the runs.
		_, e := Decode(api.CodingHex, string(b)+"0")
		_, f := Decode(api.CodingBase64, string(b)+"QAA")
		sign := c == '+' || c == '/' || plain && strings.IndexByte("-._~", byte(c)) < 0
		if got := Runs([]byte("%41bcdefg" + string(b))); slices.ContainsFunc(got, func(r api.Run) bool { return r.Coding == api.CodingPercent && r.To == 10 }) != (c >= 33 && c <= 126 && c != '%') || (e == api.OK) != (c < 128 && strings.ContainsRune("0123456789abcdefABCDEF", rune(c))) || (f == api.OK) != sign {
			t.Error(c, got, e, f)
		}
		if got := Runs([]byte("QAAAAAA" + string(b))); slices.ContainsFunc(got, func(r api.Run) bool { return r.Coding == api.CodingBase64 }) != (sign || c == '=') {
			t.Error(c, got)
		}
	}
}
