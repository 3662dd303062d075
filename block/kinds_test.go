package block_test

import (
	"bytes"
	"compress/flate"
	"io"
	"math"
	"math/rand"
	"slices"
	"testing"

	"concertina/api"
	"concertina/bits"
	"concertina/block"
	"concertina/internal/sample"
	"concertina/token"
)

const (
	mostTokens = 1<<20 - 1
	mostRaw    = 65535
)

// P10.1: blocks without tokens and bytes.
func TestEmptyBlocks(t *testing.T) {
	for kind := range 3 {
		wantBlocks(t, kind, nil, nil)
		wantBlocks(t, kind, []api.Token{}, []byte{})
		wantBlocks(t, kind, lits("abc")[:0], []byte("abc")[:0])
	}
	wantBytes(t, api.Stored, nil, nil, true, 40, 0x01, 0x00, 0x00, 0xff, 0xff)
	wantBytes(t, api.Stored, nil, nil, false, 40, 0x00, 0x00, 0x00, 0xff, 0xff)
}

// P10.1: stored blocks have the bytes of raw, at a byte boundary, whatever the
// tokens are.
func TestStoredBlocks(t *testing.T) {
	wantBytes(t, api.Stored, nil, []byte("ab"), true, 56, 0x01, 0x02, 0x00, 0xfd, 0xff, 'a', 'b')
	wantBytes(t, api.Stored, lits("xyz"), []byte("ab"), false, 56, 0x00, 0x02, 0x00, 0xfd, 0xff, 'a', 'b')
	wantBytes(t, api.Stored, []api.Token{match(2, 0)}, []byte{0}, false, 48, 0x00, 0x01, 0x00, 0xfe, 0xff, 0)
	wantBytes(t, api.Stored, make([]api.Token, mostTokens+1), []byte{7}, true, 48, 0x01, 0x01, 0x00, 0xfe, 0xff, 7)
	for _, n := range []int{1, 2, 255, 256, 257, 1000, 32768, mostRaw - 1, mostRaw} {
		wantBlocks(t, api.Stored, nil, sample.Noise(n))
	}
}

// P10.1: a block begins where the bits before it end; only a stored one goes on
// at a byte boundary.
func TestBlocksWithinByte(t *testing.T) {
	for before := range 17 {
		for kind := range 3 {
			_, n := written(t, before, kind, lits("aab"), []byte("aab"), true)
			want := before + block.Cost(kind, lits("aab"), []byte("aab"))
			if kind == api.Stored {
				want = (before+3+7)/8*8 + 32 + 24
			}
			if n != want {
				t.Errorf("kind %d behind %d bits: up to bit %d instead of %d", kind, before, n, want)
			}
		}
	}
}

// P10.1: as many bytes as a stored block can have, and more; other blocks do not
// ask for them.
func TestTooManyBytes(t *testing.T) {
	wantBlock(t, 0, api.Stored, nil, sample.Noise(mostRaw), false)
	for _, n := range []int{mostRaw + 1, mostRaw + 2, 2 * mostRaw, 1 << 17, 1 << 20} {
		raw := sample.Noise(n)
		wantNone(t, api.Stored, nil, raw)
		wantNone(t, api.Stored, lits("a"), raw)
		wantBlock(t, 0, api.Fixed, lits("a"), nil, false)
		for _, kind := range codedKinds {
			with, _ := written(t, 0, kind, lits("a"), raw, true)
			without, _ := written(t, 0, kind, lits("a"), nil, true)
			if !bytes.Equal(with, without) {
				t.Errorf("kind %d: %x instead of %x", kind, with, without)
			}
		}
	}
}

// P10.1: there are no other kinds.
func TestUnknownKinds(t *testing.T) {
	for _, kind := range noKinds {
		wantNone(t, kind, nil, nil)
		wantNone(t, kind, lits("abc"), []byte("abc"))
		wantNone(t, kind, []api.Token{match(2, 1)}, sample.Noise(mostRaw+1))
	}
}

// unsound are tokens that are neither literals nor matches.
func unsound() []api.Token {
	list := []api.Token{
		match(1, 1), match(2, 1), match(259, 1), match(3, 0), match(258, 0), match(0, 1), match(3, 32769),
		{Lit: 'a', Len: 3, Dist: 1}, {Lit: 255, Len: 258, Dist: 32768}, {Lit: 'a', Dist: 1}, {Lit: 'a', Len: 1},
	}
	for _, n := range []int{-1, -3, math.MinInt, math.MinInt32, math.MaxInt32, 1 << 32, 1<<32 + 3, math.MaxInt} {
		list = append(list, match(n, 1), match(n, n), match(3, n), match(0, n), api.Token{Lit: 1, Dist: n})
	}
	return list
}

// P10.1: a token that is not sound, wherever it is; a stored block has none.
func TestUnsoundTokens(t *testing.T) {
	for _, x := range unsound() {
		for _, list := range [][]api.Token{
			{x}, {x, x}, {x, lit('a')}, {lit('a'), x}, {lit('a'), match(3, 1), x, lit('b')},
		} {
			wantNone(t, api.Fixed, list, nil)
			wantNone(t, api.Dynamic, list, []byte("a"))
			wantBytes(t, api.Stored, list, []byte("a"), true, 48, 0x01, 0x01, 0x00, 0xfe, 0xff, 'a')
		}
	}
}

// P10.1: whether there are bytes that a match can reach is not asked.
func TestFarMatches(t *testing.T) {
	for _, kind := range codedKinds {
		wantBlocks(t, kind, []api.Token{match(3, 1)}, nil)
		wantBlocks(t, kind, []api.Token{match(258, 32768)}, nil)
		wantBlocks(t, kind, []api.Token{lit('a'), match(4, 32768), match(3, 20000)}, nil)
	}
}

// P10.1: as many tokens as a block can have, and one more.
func TestMostTokens(t *testing.T) {
	random := rand.New(rand.NewSource(3))
	list := slices.Repeat([]api.Token{lit('a')}, mostTokens+1)
	for _, kind := range codedKinds {
		wantBlock(t, 0, kind, list[1:], nil, true)
		wantNone(t, kind, list, nil)
	}
	list = slices.Repeat([]api.Token{match(258, 32768)}, mostTokens+1)
	wantBlock(t, 3, api.Dynamic, list[1:], nil, false)
	wantNone(t, api.Dynamic, list, nil)
	list = append(someTokens(random, mostTokens), lit('a'))
	wantBlock(t, 0, api.Dynamic, list[1:], nil, true)
	for _, kind := range codedKinds {
		wantNone(t, kind, list, nil)
		wantNone(t, kind, append(list, list...), nil)
	}
}

// P10.1: blocks follow each other, of any kinds, and the standard library reads
// them as the chapter says.
func TestStreams(t *testing.T) {
	random := rand.New(rand.NewSource(4))
	for range 200 {
		w := bits.NewWriter()
		var list []api.Token
		for range random.Intn(6) {
			more := reachable(random, list)
			raw, _ := token.Expand(append(slices.Clone(list), more...))
			before, _ := token.Expand(list)
			if !block.WriteKind(w, random.Intn(3), more, raw[len(before):], false) {
				t.Fatalf("no block of %d tokens", len(more))
			}
			list = append(list, more...)
		}
		if !block.WriteKind(w, random.Intn(3), nil, nil, true) {
			t.Fatal("no last block")
		}
		w.Align()
		want, _ := token.Expand(list)
		got, err := io.ReadAll(flate.NewReader(bytes.NewReader(w.Take())))
		if err != nil || !bytes.Equal(got, want) {
			t.Fatalf("%d bytes, %v instead of %d bytes", len(got), err, len(want))
		}
	}
}

// reachable returns tokens that can follow the others, of 20000 bytes at most.
func reachable(random *rand.Rand, list []api.Token) []api.Token {
	have := 0
	for _, x := range list {
		have += max(x.Len, 1)
	}
	var more []api.Token
	for range random.Intn(80) {
		x := lit(byte(random.Intn(1 + random.Intn(256))))
		if have > 0 && random.Intn(2) == 0 {
			x = match(3+random.Intn(256), 1+random.Intn(min(have, 32768)))
		}
		have += max(x.Len, 1)
		more = append(more, x)
	}
	return more
}
