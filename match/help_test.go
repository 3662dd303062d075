package match_test

import (
	"bytes"
	"slices"
	"testing"

	"concertina/api"
	"concertina/internal/expect"
	"concertina/internal/sample"
	"concertina/match"
	"concertina/token"
)

// mostWaiting is how many bytes may wait after Tokens(false).
const mostWaiting = 261

// levels is the number of levels, from 0 on.
const levels = 10

// inputs returns inputs of all sorts by their names; the long ones have more
// bytes than are kept.
func inputs() map[string][]byte {
	block := sample.Noise(40000)
	return map[string][]byte{
		"nothing":        nil,
		"one":            []byte("a"),
		"two":            []byte("ab"),
		"three":          []byte("aaa"),
		"example":        []byte("abcabcabc"),
		"repeated":       bytes.Repeat([]byte("concertina, "), 700),
		"every byte":     bytes.Repeat(slices.Collect(bytesUpTo(256)), 3),
		"noise":          sample.Noise(70000),
		"two kinds":      sample.Few(20000, 2),
		"three kinds":    sample.Few(20000, 3),
		"story":          sample.Story(150000),
		"the same":       make([]byte, 140000),
		"period 255":     bytes.Repeat(block[:255], 400),
		"period 4096":    bytes.Repeat(block[:4096], 30),
		"period 32767":   bytes.Repeat(block[:32767], 3),
		"period 32768":   bytes.Repeat(block[:32768], 3),
		"period 32769":   bytes.Repeat(block[:32769], 3),
		"period 40000":   bytes.Repeat(block, 3),
		"noise and runs": slices.Concat(sample.Noise(5000), make([]byte, 70000), sample.Noise(5000), bytes.Repeat([]byte("ab"), 300)),
	}
}

// bytesUpTo passes the bytes from 0 to below n.
func bytesUpTo(n int) func(yield func(byte) bool) {
	return func(yield func(byte) bool) {
		for i := range n {
			if !yield(byte(i)) {
				return
			}
		}
	}
}

// eachInput calls f with each input and each level, with several inputs at once.
func eachInput(t *testing.T, f func(t *testing.T, b []byte, level int)) {
	for name, b := range inputs() {
		t.Run(name, func(t *testing.T) {
			t.Parallel()
			for level := range levels {
				f(t, b, level)
			}
		})
	}
}

// short shortens bytes for a message.
var short = expect.Short

// wantBytes looks whether tokens are sound and expand to these bytes.
func wantBytes(t *testing.T, list []api.Token, want []byte) {
	t.Helper()
	for i, x := range list {
		if !token.Sound(x) {
			t.Errorf("token %d isn't sound: %+v", i, x)
			return
		}
	}
	if got, err := token.Expand(list); err != api.OK || !bytes.Equal(got, want) {
		t.Errorf("%d tokens expand to %d bytes %q, %d instead of %d bytes %q", len(list), len(got), short(got), err, len(want), short(want))
	}
}

// wantSame compares tokens; nil and empty lists are the same.
func wantSame(t *testing.T, what string, got, want []api.Token) {
	t.Helper()
	if !slices.Equal(got, want) {
		t.Errorf("%s: %d tokens instead of %d, or other ones", what, len(got), len(want))
	}
}

// wantWaiting compares the number of bytes that wait.
func wantWaiting(t *testing.T, f *match.Finder, want int) {
	t.Helper()
	if got := f.Waiting(); got != want {
		t.Errorf("Waiting: %d instead of %d", got, want)
	}
}

// bytesOf returns the number of bytes that tokens stand for.
func bytesOf(list []api.Token) int {
	n := 0
	for _, x := range list {
		n += max(x.Len, 1)
	}
	return n
}

// matchesOf returns the tokens that are matches.
func matchesOf(list []api.Token) []api.Token {
	return slices.DeleteFunc(slices.Clone(list), func(x api.Token) bool { return x.Len == 0 })
}
