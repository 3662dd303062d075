// Package sample makes data for the tests of the layers, the same ones each time,
// and has tables of the format for them.
package sample

import (
	"bytes"
	"slices"
	"strings"
)

// numbers are numbers that look random. The zero value begins with the first one.
type numbers uint64

// below returns the next number from 0 to below n.
func (r *numbers) below(n int) int {
	*r = *r*6364136223846793005 + 1442695040888963407
	// Only the high bits look random.
	return int(*r>>33) % n
}

// Noise returns n bytes that cannot be compressed.
func Noise(n int) []byte {
	return Few(n, 256)
}

// Few returns n bytes without any order, which are below kinds.
func Few(n, kinds int) []byte {
	var r numbers
	b := make([]byte, n)
	for i := range b {
		b[i] = byte(r.below(kinds))
	}
	return b
}

// Story returns n bytes of words in any order, with any byte here and there.
func Story(n int) []byte {
	var r numbers
	words := strings.Fields("the gateway forwards each request to its upstream and each response back to the client")
	var b []byte
	for len(b) < n {
		b = append(b, words[r.below(len(words))]...)
		b = append(b, ' ')
		if r.below(20) == 0 {
			b = append(b, byte(r.below(256)))
		}
	}
	return b[:n]
}

// Inputs returns data of all sorts by their names.
func Inputs() map[string][]byte {
	some := Noise(40000)
	return map[string][]byte{
		"nothing":         nil,
		"one":             []byte("a"),
		"two":             []byte("ab"),
		"three":           []byte("aaa"),
		"example":         []byte("abcabcabc"),
		"repeated":        bytes.Repeat([]byte("concertina, "), 700),
		"noise":           Noise(70000),
		"two kinds":       Few(20000, 2),
		"200 kinds":       Few(60000, 200),
		"story":           Story(150000),
		"the same":        make([]byte, 140000),
		"period 255":      bytes.Repeat(some[:255], 400),
		"period 16384":    bytes.Repeat(some[:16384], 6),
		"period 32768":    bytes.Repeat(some[:32768], 3),
		"period 32769":    bytes.Repeat(some[:32769], 3),
		"noise and runs":  slices.Concat(Noise(5000), make([]byte, 40000), Noise(5000), bytes.Repeat([]byte("ab"), 300)),
		"noise and story": slices.Concat(Noise(16383), Story(16385), Noise(16384), Story(40000)),
	}
}

// Prefixes returns the lengths of proper beginnings of b: of all if they are few,
// and otherwise of some, with the longest ones.
func Prefixes(b []byte) func(func(int) bool) {
	return func(yield func(int) bool) {
		for i := 0; i < len(b); i += max(len(b)/300, 1) {
			if !yield(i) {
				return
			}
		}
		for i := max(len(b)-20, 0); i < len(b); i++ {
			if !yield(i) {
				return
			}
		}
	}
}

// Always returns a function that returns the same number again and again.
func Always(n int) func() int {
	return func() int { return n }
}

// Spoil changes bytes, and those of the spare capacity. To do it again does not
// undo it.
func Spoil(b []byte) {
	b = b[:cap(b)]
	for i := range b {
		b[i] += 0x55
	}
}
