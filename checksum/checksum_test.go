package checksum

import (
	"hash/crc32"
	"math/big"
	"strings"
	"testing"

	"leakresponse/api"
)

var checks = []int{api.CheckLuhn, api.CheckMod97, api.CheckCRC, api.CheckLetter}

// P3.1
func TestSums(t *testing.T) {
	for n := -2; n < 8; n++ {
		if Valid(n) != (n >= 0 && n <= 4) {
			t.Error(n)
		}
	}
	for s, want := range map[string]bool{"79927398713": true, "79927398710": false, "00": true, "18": true, "19": false, "0": false, "": false, "7992739871a": false, "1 8": false} {
		if Luhn(s) != want || Holds(api.CheckLuhn, s) != want {
			t.Errorf("Luhn(%q)", s)
		}
	}
	for s, want := range map[string]bool{"098": true, "A": false, "98": false, "A58": false, "001": true, "a98": false, "1A": false, "97A": false, "": false, "0 1": false} {
		if Mod97(s) != want || Holds(api.CheckMod97, s) != want {
			t.Errorf("Mod97(%q)", s)
		}
	}
	for _, s := range []string{"", "a", "123456789", "\xff\x00z", strings.Repeat("xyz", 999)} {
		if CRC(s) != crc32.ChecksumIEEE([]byte(s)) {
			t.Errorf("CRC(%q)", s)
		}
	}
	for s, want := range map[string]byte{"": 'A', "\x01": 'B', "\x01\x01": 'D', "\xff": 'A' + 255%26, "ab": 'A' + (97+2*98)%26} {
		if Letter(s) != want {
			t.Errorf("Letter(%q) = %c", s, Letter(s))
		}
	}
}

// P3.1: the number that all digits make, with numbers without bounds.
func TestMod97(t *testing.T) {
	for _, s := range []string{"7", "AZ09", "GB82WEST12345698765432", strings.Repeat("Z9", 300)} {
		c, e := Complete(api.CheckMod97, s)
		if e != api.OK || !Mod97(c) || len(c) != len(s)+2 {
			t.Fatal(c, e)
		}
		digits := ""
		for _, r := range c {
			if r >= 'A' {
				digits += big.NewInt(int64(r - 'A' + 10)).String()
			} else {
				digits += string(r)
			}
		}
		n, _ := new(big.Int).SetString(digits, 10)
		if new(big.Int).Mod(n, big.NewInt(97)).Int64() != 1 {
			t.Error(c)
		}
		if last := c[len(s):]; last < "02" || last > "98" {
			t.Error(c)
		}
	}
}

// P3.2
func TestComplete(t *testing.T) {
	for _, c := range []struct {
		check   int
		s, want string
		e       api.Errno
	}{
		{api.CheckLuhn, "7992739871", "79927398713", 0}, {api.CheckLuhn, "0", "00", 0}, {api.CheckLuhn, "", "", api.ErrSyntax}, {api.CheckLuhn, "1a", "", api.ErrSyntax},
		{api.CheckMod97, "0", "098", 0}, {api.CheckMod97, "", "", api.ErrSyntax}, {api.CheckMod97, "a", "", api.ErrSyntax}, {api.CheckMod97, "A ", "", api.ErrSyntax},
		{api.CheckCRC, "123456789", "123456789cbf43926", 0}, {api.CheckCRC, "", "", api.ErrSyntax},
		{api.CheckLetter, "\x01", "\x01B", 0}, {api.CheckLetter, "", "", api.ErrSyntax},
		{api.CheckNone, "any", "any", 0}, {api.CheckNone, "", "", 0}, {5, "1", "", api.ErrInvalid}, {-1, strings.Repeat("1", api.MaxBytes+1), "", api.ErrInvalid},
	} {
		if got, e := Complete(c.check, c.s); got != c.want || e != c.e {
			t.Errorf("%v: %q, %d", c, got, e)
		}
	}
	for _, check := range append(checks, api.CheckNone) {
		if got, e := Complete(check, strings.Repeat("x", api.MaxBytes+1)); got != "" || e != api.ErrLimit {
			t.Error(check, e)
		}
		if got, e := Complete(check, strings.Repeat("1", api.MaxBytes)); e != api.OK || !Holds(check, got) {
			t.Error(check, e)
		}
		if check > 0 && (Holds(check, "") || Holds(check, "1")) {
			t.Error(check)
		}
	}
	if !Holds(api.CheckNone, "") || Holds(5, "00") || Holds(-1, "00") {
		t.Error("Holds")
	}
	for _, check := range checks {
		if s, e := Complete(check, "7"); e != api.OK || !Holds(check, s) {
			t.Error(check, "one byte")
		}
	}
	if Holds(api.CheckCRC, "00000000") || Holds(api.CheckCRC, "123456789CBF43926") {
		t.Error("CheckCRC needs nine bytes, and small digits")
	}
}

// P3.2, consequences: no other byte in its place.
func TestOthers(t *testing.T) {
	for _, check := range checks {
		s, _ := Complete(check, "4071953")
		for i := range s {
			check97 := (check == api.CheckMod97 || check == api.CheckCRC) && i < 7
			last := i == len(s)-1 && (check == api.CheckLuhn || check == api.CheckLetter)
			if !check97 && !last {
				continue
			}
			for c := '0'; c <= '9'; c++ {
				other := s[:i] + string(c) + s[i+1:]
				if other != s && Holds(check, other) {
					t.Errorf("%d: %q and %q", check, s, other)
				}
			}
		}
	}
}
