package match_test

import (
	"fmt"
	"math/rand"
	"slices"
	"testing"

	"concertina/api"
	"concertina/internal/sample"
	"concertina/match"
)

// P9.1: every byte that was written waits, until there are tokens for it.
func TestWaiting(t *testing.T) {
	for level := range levels {
		f := match.New(level)
		wantWaiting(t, f, 0)
		f.Write([]byte("abc"))
		wantWaiting(t, f, 3)
		f.Write(nil)
		wantWaiting(t, f, 3)
		f.Write(sample.Noise(1000))
		wantWaiting(t, f, 1003)
		wantWaiting(t, f, 1003)
		list := f.Tokens(false)
		wantWaiting(t, f, 1003-bytesOf(list))
		f.Write([]byte("d"))
		wantWaiting(t, f, 1004-bytesOf(list))
		f.Tokens(true)
		wantWaiting(t, f, 0)
		f.Tokens(false)
		f.Tokens(true)
		wantWaiting(t, f, 0)
		f.Write([]byte("ab"))
		wantWaiting(t, f, 2)
		f.Tokens(true)
		wantWaiting(t, f, 0)
	}
}

// P9.1: Tokens(false) leaves at most the last MaxMatch + MinMatch bytes, and
// what it returns are the bytes ahead of those. Then Tokens(true) leaves none.
func TestTokensAheadOfTheEnd(t *testing.T) {
	for level := range levels {
		for _, b := range [][]byte{sample.Noise(900), make([]byte, 900), sample.Few(900, 2), sample.Story(900)} {
			for n := range len(b) + 1 {
				f := match.New(level)
				f.Write(b[:n])
				list := f.Tokens(false)
				waiting := f.Waiting()
				if waiting > mostWaiting {
					t.Errorf("level %d: %d of %d bytes wait", level, waiting, n)
				}
				wantBytes(t, list, b[:n-waiting])
				again := f.Tokens(false)
				wantSame(t, "Tokens(false) once more", again, nil)
				wantWaiting(t, f, waiting)
				wantBytes(t, append(list, f.Tokens(true)...), b[:n])
				wantWaiting(t, f, 0)
			}
		}
	}
}

// P9.1: the same for long inputs that are written at once and in parts.
func TestTokensAheadOfTheEndOfLongInputs(t *testing.T) {
	eachInput(t, func(t *testing.T, b []byte, level int) {
		f := match.New(level)
		var list []api.Token
		n := 0
		for part := range slices.Chunk(b, max(len(b)/7, 1)) {
			f.Write(part)
			n += len(part)
			list = append(list, f.Tokens(false)...)
			if waiting := f.Waiting(); waiting > mostWaiting || waiting != n-bytesOf(list) {
				t.Errorf("level %d: %d of %d bytes wait, and %d have tokens", level, waiting, n, bytesOf(list))
			}
		}
		wantBytes(t, list, b[:n-f.Waiting()])
	})
}

// P9.1: after Tokens(true) the input goes on, and its matches reach back to
// what was there before.
func TestWriteAfterTheEnd(t *testing.T) {
	b := sample.Noise(600)
	for level := 1; level < levels; level++ {
		f := match.New(level)
		var list []api.Token
		for _, part := range [][]byte{b[:300], b[:300], b[298:500], b[:2], b[2:5], b[100:600], b[598:], b} {
			f.Write(part)
			wantWaiting(t, f, len(part))
			list = append(list, f.Tokens(true)...)
			wantWaiting(t, f, 0)
		}
		wantBytes(t, list, slices.Concat(b[:300], b[:300], b[298:500], b[:2], b[2:5], b[100:600], b[598:], b))
		if found := matchesOf(list); !slices.Contains(found, api.Token{Len: 258, Dist: 300}) {
			t.Errorf("level %d: the matches are %v", level, found)
		}
	}
}

// P9.1: Tokens(true) after parts of any size; so short ones have no matches, and
// there are more of them than bytes are kept.
func TestManyEnds(t *testing.T) {
	for _, b := range [][]byte{sample.Noise(100000), make([]byte, 100000), sample.Few(100000, 2), sample.Story(100000)} {
		for _, level := range []int{0, 1, 4, 6, 9} {
			for _, part := range []int{1, 2, 3, 4, 100, 259, 40000} {
				f := match.New(level)
				var list []api.Token
				for x := range slices.Chunk(b, part) {
					f.Write(x)
					list = append(list, f.Tokens(true)...)
					wantWaiting(t, f, 0)
				}
				wantBytes(t, list, b)
			}
		}
	}
}

// P9.1: after very many parts that are too short for matches, the next part
// still has matches at every distance, and none that is too great.
func TestMatchAfterManyEnds(t *testing.T) {
	b := sample.Few(140000, 200)
	text := []byte("\xfe\xfd\xfc\xfb\xff")
	for _, dist := range []int{100, 10000, 32767, 32768, 32769, 60000, 139000} {
		whole := slices.Clone(b)
		copy(whole[len(whole)-dist:], text)
		f := match.New(9)
		var list []api.Token
		for x := range slices.Chunk(whole, 2) {
			f.Write(x)
			list = append(list, f.Tokens(true)...)
		}
		f.Write(text)
		last := f.Tokens(true)
		if found := slices.Equal(last, []api.Token{{Len: len(text), Dist: dist}}); found != (dist <= 32768) {
			t.Errorf("distance %d: the last tokens are %v", dist, last)
		}
		wantBytes(t, append(list, last...), slices.Concat(whole, text))
	}
}

// P9.2: Tokens of a list is the same as New, Write and Tokens(true).
func TestTokensOfAList(t *testing.T) {
	eachInput(t, func(t *testing.T, b []byte, level int) {
		f := match.New(level)
		f.Write(b)
		wantSame(t, fmt.Sprint("level ", level), match.Tokens(b, level), f.Tokens(true))
	})
	for _, level := range []int{-5, 15} {
		f := match.New(level)
		f.Write(sample.Story(3000))
		wantSame(t, fmt.Sprint("level ", level), match.Tokens(sample.Story(3000), level), f.Tokens(true))
	}
}

// tokensInParts returns all tokens of an input that is written in parts of n
// bytes, with Tokens(false) so many times after each of them.
func tokensInParts(b []byte, level, n, times int) []api.Token {
	f := match.New(level)
	var list []api.Token
	for part := range slices.Chunk(b, n) {
		f.Write(part)
		for range times {
			list = append(list, f.Tokens(false)...)
		}
	}
	return append(list, f.Tokens(true)...)
}

// P9.2: in whatever parts an input is written, and however often Tokens(false)
// is called in between, its tokens are the same in total.
func TestTokensInParts(t *testing.T) {
	eachInput(t, func(t *testing.T, b []byte, level int) {
		want := match.Tokens(b, level)
		sizes, most := []int{1, 2, 3, 7, 258, 261, 262, 1000}, 3
		if len(b) > 30000 { // each takes long
			sizes, most = []int{1, 262, 32769, 100000}, 2
		}
		for _, n := range sizes {
			for times := range most {
				what := fmt.Sprintf("level %d, parts of %d bytes, %d times", level, n, times)
				wantSame(t, what, tokensInParts(b, level, n, times), want)
			}
		}
	})
}

// P9.2: the same for parts of random sizes, and Tokens(false) at random.
func TestTokensInRandomParts(t *testing.T) {
	eachInput(t, func(t *testing.T, b []byte, level int) {
		random := rand.New(rand.NewSource(int64(level)))
		want := match.Tokens(b, level)
		for _, most := range []int{300, 80000} {
			f := match.New(level)
			var list []api.Token
			for rest := b; len(rest) > 0; {
				n := min(random.Intn(most), len(rest))
				f.Write(rest[:n])
				rest = rest[n:]
				if random.Intn(3) > 0 {
					list = append(list, f.Tokens(false)...)
				}
			}
			list = append(list, f.Tokens(true)...)
			wantSame(t, fmt.Sprintf("level %d, parts below %d bytes", level, most), list, want)
		}
	})
}

// P9.2: the same for a short input that is divided at each place.
func TestTokensInTwoParts(t *testing.T) {
	for level := range levels {
		for _, b := range [][]byte{sample.Story(700), sample.Few(700, 2), make([]byte, 700)} {
			want := match.Tokens(b, level)
			for i := range len(b) + 1 {
				f := match.New(level)
				f.Write(b[:i])
				list := f.Tokens(false)
				f.Write(b[i:])
				list = append(list, f.Tokens(true)...)
				wantSame(t, fmt.Sprintf("level %d, divided at %d", level, i), list, want)
			}
		}
	}
}
