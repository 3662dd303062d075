package sample_test

import (
	"bytes"
	"testing"

	"concertina/internal/sample"
)

// The data are the same ones each time, and fewer bytes are the first ones of more.
func TestSameData(t *testing.T) {
	kinds := map[string]func(n int) []byte{
		"Noise": sample.Noise,
		"Few":   func(n int) []byte { return sample.Few(n, 3) },
		"Story": sample.Story,
	}
	for name, data := range kinds {
		all := data(1000)
		for _, n := range []int{0, 1, 2, 100, 999, 1000} {
			if b := data(n); !bytes.Equal(b, all[:n]) {
				t.Errorf("%s: %d bytes are other ones than the first of 1000", name, n)
			}
		}
	}
}

// Noise has all bytes about as often, and Few those below a number.
func TestKindsOfBytes(t *testing.T) {
	for _, kinds := range []int{1, 2, 3, 200, 256} {
		count := make([]int, 256)
		for _, b := range sample.Few(1000*kinds, kinds) {
			count[b]++
		}
		for v, n := range count {
			if v < kinds && (n < 800 || n > 1200) || v >= kinds && n > 0 {
				t.Errorf("of %d kinds, byte %d is there %d times", kinds, v, n)
			}
		}
	}
	if !bytes.Equal(sample.Noise(1000), sample.Few(1000, 256)) {
		t.Error("Noise does not have all kinds")
	}
}

// Spoil changes each byte up to the capacity, each time.
func TestSpoil(t *testing.T) {
	b := sample.Few(100, 256)
	before := bytes.Clone(b)
	for range 3 {
		sample.Spoil(b[:10:90])
		for i := range b {
			if changed := b[i] != before[i]; changed != (i < 90) {
				t.Errorf("byte %d: %d, and %d before", i, b[i], before[i])
			}
		}
	}
}

// Prefixes has the length of each proper beginning of few bytes, and of many those
// from all over, with the longest ones.
func TestPrefixes(t *testing.T) {
	for _, n := range []int{0, 1, 2, 19, 20, 21, 300, 599, 600, 5000, 100000} {
		seen := map[int]bool{}
		for i := range sample.Prefixes(make([]byte, n)) {
			if i < 0 || i >= n {
				t.Errorf("of %d bytes, %d", n, i)
			}
			seen[i] = true
		}
		for i := range n {
			if !seen[i] && (n < 600 || i >= n-20) {
				t.Errorf("of %d bytes, not %d", n, i)
			}
		}
		if n > 600 && (len(seen) < 300 || len(seen) > 700) {
			t.Errorf("of %d bytes, %d lengths", n, len(seen))
		}
	}
	for range sample.Prefixes(make([]byte, 5)) {
		break
	}
}

// Always has its number each time.
func TestAlways(t *testing.T) {
	five, six := sample.Always(5), sample.Always(6)
	for range 3 {
		if five() != 5 || six() != 6 {
			t.Error("another number")
		}
	}
}
