package deflate

import (
	"concertina/api"
	"concertina/match"
)

// finder holds the data that no block has yet: as they are, and by tokens. Its
// zero value is one of level 0.
type finder struct {
	search match.Finder
	raw    []byte
	list   []api.Token
	told   int // how many bytes of raw the tokens of list stand for
}

// newFinder returns a finder of a level as in package match.
func newFinder(level int) finder {
	return finder{search: *match.New(level)}
}

// add appends the bytes of b to the data.
func (f *finder) add(b []byte) {
	f.search.Write(b)
	f.raw = append(f.raw, b...)
}

// tokens returns the next tokens, which are not in the list yet.
func (f *finder) tokens(end bool) []api.Token {
	return f.search.Tokens(end)
}

// tell appends a token to the list.
func (f *finder) tell(t api.Token) {
	f.list = append(f.list, t)
	f.told += max(t.Len, 1)
}

// cut removes and returns the data that are told: their tokens, and their bytes.
func (f *finder) cut() ([]api.Token, []byte) {
	// The bytes end here: who appends to them must not reach the data behind.
	list, raw := f.list, f.raw[:f.told:f.told]
	f.raw = f.raw[f.told:]
	f.list, f.told = nil, 0
	return list, raw
}
