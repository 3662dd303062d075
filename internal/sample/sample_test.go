package sample_test

import (
	"bytes"
	"testing"

	"concertina/internal/sample"
)

// The data are the same ones each time, and fewer bytes are the first ones of more.
func TestSameData(t *testing.T) {
	kinds := map[string]func(n int) []byte{
		"Noise": sample.Noise,
		"Few":   func(n int) []byte { return sample.Few(n, 3) },
		"Story": sample.Story,
	}
	for name, data := range kinds {
		all := data(1000)
		for _, n := range []int{0, 1, 2, 100, 999, 1000} {
			if b := data(n); !bytes.Equal(b, all[:n]) {
				t.Errorf("%s: %d bytes are other ones than the first of 1000", name, n)
			}
		}
	}
}

// Noise has all bytes about as often, and Few those below a number.
func TestKindsOfBytes(t *testing.T) {
	for _, kinds := range []int{1, 2, 3, 200, 256} {
		count := make([]int, 256)
		for _, b := range sample.Few(1000*kinds, kinds) {
			count[b]++
		}
		for v, n := range count {
			if v < kinds && (n < 800 || n > 1200) || v >= kinds && n > 0 {
				t.Errorf("of %d kinds, byte %d is there %d times", kinds, v, n)
			}
		}
	}
	if !bytes.Equal(sample.Noise(1000), sample.Few(1000, 256)) {
		t.Error("Noise does not have all kinds")
	}
}

// Spoil changes each byte up to the capacity, each time.
func TestSpoil(t *testing.T) {
	b := sample.Few(100, 256)
	before := bytes.Clone(b)
	for range 3 {
		sample.Spoil(b[:10:90])
		for i := range b {
			if changed := b[i] != before[i]; changed != (i < 90) {
				t.Errorf("byte %d: %d, and %d before", i, b[i], before[i])
			}
		}
	}
}
