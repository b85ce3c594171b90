package entropy

import (
	"bytes"
	"math"
	"math/big"
	"testing"

	"leakresponse/api"
)

// slow follows the chapter in numbers without bounds.
func slow(n int) int {
	k := 0
	for 1<<(k+1) <= n {
		k++
	}
	x, y := big.NewInt(int64(n)), k
	x.Lsh(x, uint(30-k))
	for range 16 {
		x.Mul(x, x).Rsh(x, 30)
		y *= 2
		if x.Cmp(big.NewInt(1<<31)) >= 0 {
			x.Rsh(x, 1)
			y++
		}
	}
	return y
}

// P2.1
func TestLog(t *testing.T) {
	for n, want := range map[int]int{1: 0, 2: 65536, 8: 196608, 3: 103872, 1 << 30: 30 * 65536, 0: 0, -1: 0, 1<<30 + 1: 0, math.MinInt: 0, math.MaxInt: 0} {
		if got := Log(n); got != want {
			t.Errorf("Log(%d) = %d", n, got)
		}
	}
	last := 0
	for n := 1; n <= 70000; n++ {
		got := Log(n)
		if got != slow(n) || got < last || Log(2*n) != got+65536 {
			t.Fatal(n, got)
		}
		last = got
	}
	for _, n := range []int{759250125, 1<<30 - 1, 1<<29 + 12345, 987654321} {
		if Log(n) != slow(n) {
			t.Error(n)
		}
	}
}

// P2.2
func TestMeasure(t *testing.T) {
	for s, want := range map[string][3]int{
		"": {0, 0, 0}, "a": {0, 1, 0}, "aaaa": {0, 1, 0}, "aabb": {4 * 65536, 2, 65536}, "abab": {4 * 65536, 2, 65536},
		"aab": {2*(Log(3)-65536) + Log(3), 2, (2*(Log(3)-65536) + Log(3)) / 3}, "\x00\xff\x00\xfe": {2*65536 + 2*131072, 3, 98304},
	} {
		if got := [3]int{Measure([]byte(s)), Distinct([]byte(s)), Mean([]byte(s))}; got != want {
			t.Errorf("%q: %v", s, got)
		}
	}
	c := Counts([]byte("a\xffba"))
	if c['a'] != 2 || c['b'] != 1 || c[255] != 1 || c[0] != 0 {
		t.Error(c)
	}
	b := bytes.Repeat([]byte("ab"), api.MaxBytes/2)
	if Counts(b)['a'] != api.MaxBytes/2 || Measure(b) != api.MaxBytes*65536 || Distinct(b) != 2 || Mean(b) != 65536 {
		t.Error(Measure(b))
	}
	b = append(b, 'c')
	if Counts(b) != [256]int{} || Measure(b) != 0 || Distinct(b) != 0 || Mean(b) != 0 {
		t.Error("more than MaxBytes")
	}
}

// P2.2, consequence
func TestMean(t *testing.T) {
	x := uint32(1)
	for n := 1; n < 300; n++ {
		b := make([]byte, n)
		for i := range b {
			x = x*1664525 + 1013904223
			b[i] = byte(x >> 24 % 40)
		}
		if Mean(b) > Log(Distinct(b))+8 {
			t.Error(n, Mean(b), Distinct(b))
		}
	}
}
