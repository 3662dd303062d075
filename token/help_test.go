package token_test

import (
	"bytes"
	"math"
	"testing"

	"concertina/api"
	"concertina/internal/expect"
	"concertina/token"
)

// extremes are numbers that are no length, no distance and no code.
var extremes = []int{
	-1, -2, -3, -258, -32768, math.MinInt32, math.MinInt32 - 1, math.MinInt + 1, math.MinInt,
	32769, 1 << 16, 1<<16 + 3, math.MaxInt32, 1<<32 + 3, 1<<32 + 258, math.MaxInt - 1, math.MaxInt,
}

// lit returns a literal.
func lit(b byte) api.Token {
	return api.Token{Lit: b}
}

// match returns a match.
func match(n, dist int) api.Token {
	return api.Token{Len: n, Dist: dist}
}

// lits returns a literal for each byte.
func lits[T string | []byte](text T) []api.Token {
	var list []api.Token
	for _, b := range []byte(text) {
		list = append(list, lit(b))
	}
	return list
}

// join returns the tokens of all lists, in new memory.
func join(lists ...[]api.Token) []api.Token {
	var all []api.Token
	for _, list := range lists {
		all = append(all, list...)
	}
	return all
}

// short shortens bytes for a message.
var short = expect.Short

// wantExpand expands tokens that should have these bytes.
func wantExpand(t *testing.T, list []api.Token, want []byte) {
	t.Helper()
	got, err := token.Expand(list)
	if err != api.OK || !bytes.Equal(got, want) {
		t.Errorf("Expand of %d tokens: %d bytes %q, %d instead of %d bytes %q", len(list), len(got), short(got), err, len(want), short(want))
	}
}

// wantError expands tokens that should have an error, and no bytes beside it.
func wantError(t *testing.T, list []api.Token, want api.Errno) {
	t.Helper()
	if got, err := token.Expand(list); got != nil || err != want {
		t.Errorf("Expand of %d tokens: %d bytes %q, %d instead of %d", len(list), len(got), short(got), err, want)
	}
}
