package match_test

import (
	"bytes"
	"fmt"
	"math"
	"math/rand"
	"slices"
	"testing"

	"concertina/api"
	"concertina/internal/sample"
	"concertina/match"
)

// P9.1: the example of the chapter. Its match is found at every level that looks
// for matches, since there is no other place to look at.
func TestExample(t *testing.T) {
	want := []api.Token{{Lit: 'a'}, {Lit: 'b'}, {Lit: 'c'}, {Len: 6, Dist: 3}}
	for level := 1; level < levels; level++ {
		list := match.Tokens([]byte("abcabcabc"), level)
		wantBytes(t, list, []byte("abcabcabc"))
		wantSame(t, fmt.Sprint("level ", level), list, want)
	}
}

// P9.1: all tokens are sound, and expand to the input.
func TestTokensExpandToTheInput(t *testing.T) {
	eachInput(t, func(t *testing.T, b []byte, level int) {
		wantBytes(t, match.Tokens(b, level), b)
	})
}

// P9.1: the same for many short inputs, whose matches are often near the end.
func TestTokensOfShortInputs(t *testing.T) {
	random := rand.New(rand.NewSource(3))
	for range 3000 {
		b := make([]byte, random.Intn(700))
		kinds := 1 + random.Intn(4)
		for i := range b {
			b[i] = byte(random.Intn(kinds))
		}
		wantBytes(t, match.Tokens(b, random.Intn(levels)), b)
	}
}

// P9.1: no bytes have no tokens.
func TestTokensOfNothing(t *testing.T) {
	for level := range levels {
		for _, b := range [][]byte{nil, {}, []byte("abc")[:0]} {
			if list := match.Tokens(b, level); len(list) != 0 {
				t.Errorf("level %d: %v", level, list)
			}
		}
		f := match.New(level)
		for _, end := range []bool{false, true, false, true, true} {
			if list := f.Tokens(end); len(list) != 0 {
				t.Errorf("level %d: %v", level, list)
			}
			f.Write(nil)
			f.Write([]byte{})
			wantWaiting(t, f, 0)
		}
		f.Write([]byte("a"))
		wantSame(t, "one byte", f.Tokens(true), []api.Token{{Lit: 'a'}})
	}
}

// P9.1: fewer bytes than the shortest match has are literals, also if they are
// the same; and so are as many and one more behind which nothing is repeated.
func TestTokensOfFewBytes(t *testing.T) {
	for level := range levels {
		for _, text := range []string{"a", "\x00", "ab", "aa", "\x00\x00", "\xff\xff", "abc", "aaa", "aab", "abca", "aaab", "aabaab"[:5]} {
			var want []api.Token
			for _, b := range []byte(text) {
				want = append(want, api.Token{Lit: b})
			}
			wantSame(t, fmt.Sprintf("level %d, %q", level, text), match.Tokens([]byte(text), level), want)
		}
	}
}

// P9.1: the shortest match, of the same byte and of others, also at the end.
func TestShortestMatch(t *testing.T) {
	for level := 1; level < levels; level++ {
		for text, want := range map[string]api.Token{
			"aaaa":             {Len: 3, Dist: 1},
			"baaaac":           {Len: 3, Dist: 1},
			"ababa":            {Len: 3, Dist: 2},
			"abcabc":           {Len: 3, Dist: 3},
			"abcabcd":          {Len: 3, Dist: 3},
			"abc..abc":         {Len: 3, Dist: 5},
			"\x00\x00\x00\x00": {Len: 3, Dist: 1},
		} {
			list := match.Tokens([]byte(text), level)
			wantBytes(t, list, []byte(text))
			wantSame(t, fmt.Sprintf("level %d, %q", level, text), matchesOf(list), []api.Token{want})
		}
	}
}

// P9.1: a longer repetition is divided into matches of the greatest length.
func TestLongestMatch(t *testing.T) {
	b := sample.Noise(1000)
	for level := 1; level < levels; level++ {
		for _, n := range []int{257, 258, 259, 260, 261, 515, 516, 517, 519, 1000} {
			whole := slices.Concat(b, b[:n])
			list := match.Tokens(whole, level)
			wantBytes(t, list, whole)
			for i, x := range matchesOf(list) {
				if want := min(n-258*i, 258); x.Len != want || x.Dist != 1000 {
					t.Errorf("level %d, %d bytes again: match %d is %+v", level, n, i, x)
				}
			}
			if got, want := len(matchesOf(list)), n/258+min(n%258/3, 1); got != want {
				t.Errorf("level %d, %d bytes again: %d matches instead of %d", level, n, got, want)
			}
		}
	}
}

// P9.1: at level 0 each byte is a literal.
func TestLevelZero(t *testing.T) {
	for name, b := range inputs() {
		list := match.Tokens(b, 0)
		if len(list) != len(b) {
			t.Errorf("%s: %d tokens for %d bytes", name, len(list), len(b))
			continue
		}
		for i, x := range list {
			if x != (api.Token{Lit: b[i]}) {
				t.Errorf("%s: token %d is %+v", name, i, x)
				break
			}
		}
	}
}

// P9.1: a level outside counts as the nearest one.
func TestLevelsOutside(t *testing.T) {
	for name, b := range inputs() {
		least, most := match.Tokens(b, 0), match.Tokens(b, 9)
		for _, level := range []int{-1, -2, -9, -10, math.MinInt32, math.MinInt32 - 1, math.MinInt + 1, math.MinInt} {
			wantSame(t, fmt.Sprint(name, " at level ", level), match.Tokens(b, level), least)
		}
		for _, level := range []int{10, 11, 19, 256, 1 << 32, math.MaxInt32, math.MaxInt - 1, math.MaxInt} {
			wantSame(t, fmt.Sprint(name, " at level ", level), match.Tokens(b, level), most)
		}
	}
}

// P9.1: from level 1 on matches are found, and may overlap themselves.
func TestOverlappingMatches(t *testing.T) {
	b := sample.Noise(300)
	for level := 1; level < levels; level++ {
		for _, period := range []int{1, 2, 3, 4, 100, 257, 258, 259, 300} {
			for _, more := range []int{3, 4, period, period + 1, 2*period + 5, 1000} {
				if more < 3 {
					continue
				}
				whole := bytes.Repeat(b[:period], more/period+2)[:period+more]
				list := match.Tokens(whole, level)
				wantBytes(t, list, whole)
				found := matchesOf(list)
				if len(found) == 0 || found[0] != (api.Token{Len: min(more, 258), Dist: period}) {
					t.Errorf("level %d, %d bytes of period %d: the matches are %v", level, len(whole), period, found)
				}
			}
		}
	}
}

// P9.1: a repetition at the greatest distance is a match, and one that is one
// byte farther back isn't, wherever in the input it is. The runs of zeros
// between the texts go on beyond the places that are tried.
func TestGreatestDistance(t *testing.T) {
	text := []byte("concertina")
	for level := 1; level < levels; level++ {
		for _, ahead := range []int{0, 1, 1000, 32768, 32769, 65536, 70000, 98304, 140000} {
			for dist := 32765; dist <= 32771; dist++ {
				b := slices.Concat(bytes.Repeat([]byte{1}, ahead), text, make([]byte, dist-len(text)), text)
				list := match.Tokens(b, level)
				wantBytes(t, list, b)
				far := slices.DeleteFunc(matchesOf(list), func(x api.Token) bool { return x.Dist == 1 })
				var want []api.Token
				if dist <= 32768 {
					want = []api.Token{{Len: len(text), Dist: dist}}
				}
				wantSame(t, fmt.Sprintf("level %d, distance %d behind %d bytes", level, dist, ahead), far, want)
			}
		}
	}
}

// P9.1: the same byte more than 2 MaxMatch times has fewer tokens than a tenth
// of its bytes.
func TestTheSameByte(t *testing.T) {
	for level := 1; level < levels; level++ {
		for _, n := range []int{517, 518, 519, 520, 521, 600, 773, 774, 775, 776, 777, 1032, 1033, 5000, 32768, 65537, 100000, 1 << 20} {
			for _, x := range []byte{0, 'a', 255} {
				b := bytes.Repeat([]byte{x}, n)
				list := match.Tokens(b, level)
				wantBytes(t, list, b)
				if 10*len(list) >= n {
					t.Errorf("level %d: %d tokens for %d times %d", level, len(list), n, x)
				}
			}
		}
	}
}

// P9.1: the same in parts, with Tokens(false) in between.
func TestTheSameByteInParts(t *testing.T) {
	for level := 1; level < levels; level++ {
		for n := 517; n < 1100; n += 3 {
			f := match.New(level)
			var list []api.Token
			for range n {
				f.Write([]byte("a"))
				list = append(list, f.Tokens(false)...)
			}
			list = append(list, f.Tokens(true)...)
			wantBytes(t, list, bytes.Repeat([]byte("a"), n))
			if 10*len(list) >= n {
				t.Errorf("level %d: %d tokens for %d bytes", level, len(list), n)
			}
		}
	}
}
