package fingerprint

import (
	"math/big"
	"testing"

	"leakresponse/api"
)

// slow follows the chapter in numbers without bounds, modulo 2^64.
func slowMix(x uint64) uint64 {
	step := func(x uint64, shift uint, by string) uint64 {
		f, _ := new(big.Int).SetString(by, 10)
		y := new(big.Int).SetUint64(x ^ x>>shift)
		y.Mul(y, f)
		return y.Mod(y, new(big.Int).Lsh(big.NewInt(1), 64)).Uint64()
	}
	x = step(x, 30, "13787848793156543929")
	x = step(x, 27, "10723151780598845931")
	return x ^ x>>31
}

func slowOf(key uint64, kind int, b []byte) uint64 {
	h := slowMix(key)
	h = slowMix(h ^ uint64(int64(kind)))
	h = slowMix(h ^ uint64(len(b)))
	for i := 0; i < len(b); i += 8 {
		var w uint64
		for k := i + 7; k >= i; k-- {
			w *= 256
			if k < len(b) {
				w += uint64(b[k])
			}
		}
		h = slowMix(h^w) + 11400714819323198485
	}
	return h
}

// P4.1
func TestMix(t *testing.T) {
	if Mix(0) != 0 {
		t.Error(Mix(0))
	}
	for _, x := range []uint64{1, 2, 1 << 30, 1<<63 + 5, ^uint64(0)} {
		if Mix(x) != slowMix(x) {
			t.Error(x)
		}
	}
}

// P4.1
func TestOf(t *testing.T) {
	big := make([]byte, api.MaxBytes+1)
	for i := range big {
		big[i] = byte(i * 7)
	}
	seen := map[uint64]bool{}
	for _, n := range []int{0, 1, 7, 8, 9, 16, 17, 100, api.MaxBytes} {
		for _, kind := range []int{0, 1, -1, 31} {
			for _, key := range []uint64{0, 5, 1 << 63} {
				got := Of(key, kind, big[:n])
				if got != slowOf(key, kind, big[:n]) || seen[got] {
					t.Error(n, kind, key, got)
				}
				seen[got] = true
			}
		}
	}
	if Of(5, 1, big) != 0 {
		t.Error("more than MaxBytes")
	}
	if Of(5, 1, []byte("a")) == Of(5, 1, []byte("a\x00")) {
		t.Error("lengths")
	}
}

// P4.1
func TestSame(t *testing.T) {
	big := make([]byte, api.MaxBytes+1)
	if Same(1, 1, big, big) || Same(1, 1, big, nil) || Same(1, 1, nil, big) || !Same(1, 1, big[1:], big[1:]) {
		t.Error("bounds")
	}
	if !Same(1, 2, []byte("secret"), []byte("secret")) || Same(1, 2, []byte("secret"), []byte("Secret")) || !Same(1, 2, nil, []byte{}) {
		t.Error("texts")
	}
}
