package token_test

import (
	"slices"
	"testing"

	"concertina/api"
	"concertina/token"
)

// wantSound asks whether a token is sound.
func wantSound(t *testing.T, x api.Token, want bool) {
	t.Helper()
	if got := token.Sound(x); got != want {
		t.Errorf("Sound(%+v): %t instead of %t", x, got, want)
	}
}

// P8.2: every byte is a literal, without a length and a distance only.
func TestSoundLiterals(t *testing.T) {
	for b := range 256 {
		wantSound(t, api.Token{Lit: byte(b)}, true)
		wantSound(t, api.Token{Lit: byte(b), Len: 1}, false)
		wantSound(t, api.Token{Lit: byte(b), Len: 3}, false)
		wantSound(t, api.Token{Lit: byte(b), Dist: 1}, false)
		wantSound(t, api.Token{Lit: byte(b), Dist: 32768}, false)
		wantSound(t, api.Token{Lit: byte(b), Len: 1, Dist: 1}, false)
		wantSound(t, api.Token{Lit: byte(b), Len: 3, Dist: 1}, b == 0)
	}
}

// P8.2: matches of every length, and of every distance.
func TestSoundMatches(t *testing.T) {
	for n := -300; n <= 600; n++ {
		for _, dist := range []int{1, 2, 300, 32767, 32768} {
			wantSound(t, match(n, dist), n >= 3 && n <= 258)
			wantSound(t, api.Token{Lit: 1, Len: n, Dist: dist}, false)
		}
	}
	for dist := -300; dist <= 33000; dist++ {
		for _, n := range []int{3, 4, 257, 258} {
			wantSound(t, match(n, dist), dist >= 1 && dist <= 32768)
		}
	}
}

// P8.2: lengths and distances at the limits, just outside and far away, each
// with each.
func TestSoundAtLimits(t *testing.T) {
	lengths := append([]int{0, 1, 2, 3, 4, 257, 258, 259, 260}, extremes...)
	dists := append([]int{0, 1, 2, 32767, 32768, 32769, 32770}, extremes...)
	for _, n := range lengths {
		for _, dist := range dists {
			isMatch := slices.Contains(lengths[3:7], n) && slices.Contains(dists[1:5], dist)
			wantSound(t, match(n, dist), isMatch || n == 0 && dist == 0)
			for _, b := range []byte{1, 97, 128, 255} {
				wantSound(t, api.Token{Lit: b, Len: n, Dist: dist}, n == 0 && dist == 0)
			}
		}
	}
}
