package match

import "concertina/api"

// search tells how long matches are searched for.
type search struct {
	tries  int // how many places are tried for a match; 0: all tokens are literals
	enough int // a match of this length or more ends the search
	lazy   int // a shorter match than this gives way to a longer one of the next byte
}

// levels are the searches of the levels.
var levels = [10]search{
	{},
	{4, 8, 0},
	{8, 16, 0},
	{16, 32, 0},
	{16, 32, 4},
	{32, 64, 16},
	{64, 128, 16},
	{128, 128, 32},
	{512, api.MaxMatch, 128},
	{1024, api.MaxMatch, api.MaxMatch},
}

// next returns the token of the first waiting byte.
func (f *Finder) next() api.Token {
	t := f.best(f.at)
	if t.Len == 0 || t.Len < f.lazy && f.best(f.at+1).Len > t.Len {
		return api.Token{Lit: f.list[f.at]}
	}
	return t
}

// best returns the longest match that is found for the bytes from i on, of
// several the nearest one. Its length is 0 if there is none.
func (f *Finder) best(i int) api.Token {
	var found api.Token
	rest := f.list[i:min(i+api.MaxMatch, len(f.list))]
	if len(rest) < api.MinMatch {
		return found
	}
	f.learn(i)
	dist := f.nearest(i)
	for try := 0; try < f.tries && dist > 0 && found.Len < min(f.enough, len(rest)); try++ {
		// A longer match has this byte too. Most places fail here, at once.
		if from := f.list[i-dist:]; from[found.Len] == rest[found.Len] {
			found = longer(found, api.Token{Len: same(from, rest), Dist: dist})
		}
		dist = f.farther(i, dist)
	}
	return found
}

// longer returns the longer one of two matches, of equal ones the first.
func longer(a, b api.Token) api.Token {
	if b.Len > a.Len {
		return b
	}
	return a
}

// same returns how many bytes at the beginning of a and b are the same.
func same(a, b []byte) int {
	n := 0
	for n < min(len(a), len(b)) && a[n] == b[n] {
		n++
	}
	return n
}
