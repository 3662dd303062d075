package match

import (
	"slices"

	"concertina/api"
)

// start is the bytes at the beginning of a match.
type start [api.MinMatch]byte

// startOf returns the start of b, which has at least as many bytes.
func startOf(b []byte) start {
	var s start
	copy(s[:], b)
	return s
}

// input is what is there of an input: all bytes from some place on, and where
// the same starts are in it.
//
// Places are in two maps, so that old ones go with their map: last has those of
// at most WindowSize places, and older those of as many before them.
type input struct {
	list  []byte
	gone  int           // how many bytes were there before list
	last  map[start]int // the last place of each start, counted from the first byte of all
	older map[start]int
	back  []uint16 // how far before each learned place of list the same start is, or 0
}

// newInput returns an input without bytes.
func newInput() input {
	return input{last: map[start]int{}, older: map[start]int{}}
}

// learn adds the places before i, so that matches can be found there.
func (p *input) learn(i int) {
	for k := len(p.back); k < i; k++ {
		place := p.gone + k
		if place%api.WindowSize == 0 {
			p.last, p.older = p.older, p.last
			clear(p.last)
		}
		// A distance is at most WindowSize, which these numbers hold.
		p.back = append(p.back, uint16(p.nearest(k)))
		p.last[startOf(p.list[k:])] = place
	}
}

// nearest returns how far before i the same start was learned last, or 0 if it
// is nowhere that a match may reach.
func (p *input) nearest(i int) int {
	s := startOf(p.list[i:])
	place, ok := p.last[s]
	if !ok {
		place, ok = p.older[s]
	}
	if !ok {
		return 0
	}
	return reached(p.gone + i - place)
}

// farther returns how far before i the same start is next behind a distance, or
// 0 if it is nowhere that a match may reach.
func (p *input) farther(i, dist int) int {
	more := int(p.back[i-dist])
	if more == 0 {
		return 0
	}
	return reached(dist + more)
}

// reached returns a distance, or 0 if it is too great for a match.
func reached(dist int) int {
	if dist > api.WindowSize {
		return 0
	}
	return dist
}

// forget removes the first n bytes, behind which there are at least as many as a
// match has. What stays is copied, so that no more memory is kept than it needs.
func (p *input) forget(n int) {
	// No place is left out, so that the maps change at each full window.
	p.learn(n)
	p.list = slices.Clone(p.list[n:])
	p.back = slices.Clone(p.back[n:])
	p.gone += n
}
