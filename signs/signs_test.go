package signs

import (
	"strings"
	"testing"
)

func TestNames(t *testing.T) {
	long := strings.Repeat("a", 40)
	for s, want := range map[string][2]bool{"": {}, "a": {true, true}, "a-9": {true, true}, long: {true, true}, long + "a": {}, "A": {false, true}, "a b": {}, "a!": {}, "~": {false, true}, "\x7f": {}, "\x80": {}} {
		if got := [2]bool{Label(s), Visible(s, '!')}; got != want {
			t.Errorf("%q: %v", s, got)
		}
	}
}

func TestNumber(t *testing.T) {
	for s, want := range map[string]int{"0": 0, "7": 7, "10": 10, "9223372036854775807": 9223372036854775807, "": -1, "01": -1, "+1": -1, "-0": -1, "-1": -1, "9223372036854775808": -1, "1 ": -1, "1_0": -1, "x": -1} {
		n, ok := Number(s)
		if ok != (want >= 0) || ok && n != want || !ok && n != 0 {
			t.Errorf("%q: %d, %v", s, n, ok)
		}
	}
}
