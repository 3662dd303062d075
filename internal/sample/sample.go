// Package sample makes data for the tests of the layers: the same ones each time.
package sample

import "strings"

// numbers are numbers that look random. The zero value begins with the first one.
type numbers uint64

// below returns the next number from 0 to below n.
func (r *numbers) below(n int) int {
	*r = *r*6364136223846793005 + 1442695040888963407
	// Only the high bits look random.
	return int(*r>>33) % n
}

// Noise returns n bytes that cannot be compressed.
func Noise(n int) []byte {
	return Few(n, 256)
}

// Few returns n bytes without any order, which are below kinds.
func Few(n, kinds int) []byte {
	var r numbers
	b := make([]byte, n)
	for i := range b {
		b[i] = byte(r.below(kinds))
	}
	return b
}

// Story returns n bytes of words in any order, with any byte here and there.
func Story(n int) []byte {
	var r numbers
	words := strings.Fields("the gateway forwards each request to its upstream and each response back to the client")
	var b []byte
	for len(b) < n {
		b = append(b, words[r.below(len(words))]...)
		b = append(b, ' ')
		if r.below(20) == 0 {
			b = append(b, byte(r.below(256)))
		}
	}
	return b[:n]
}
