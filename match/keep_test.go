package match_test

import (
	"bytes"
	"fmt"
	"runtime"
	"slices"
	"testing"

	"concertina/api"
	"concertina/internal/sample"
	"concertina/match"
)

// P9.2: a nil finder has nothing.
func TestNilFinder(t *testing.T) {
	var f *match.Finder
	for _, b := range [][]byte{nil, []byte("abcabcabc"), sample.Noise(100000)} {
		f.Write(b)
		wantWaiting(t, f, 0)
		for _, end := range []bool{false, true} {
			if list := f.Tokens(end); list != nil {
				t.Errorf("Tokens: %v", list)
			}
		}
	}
}

// R1: a finder that New did not make is one of level 0.
func TestZeroFinder(t *testing.T) {
	f := new(match.Finder)
	wantWaiting(t, f, 0)
	wantSame(t, "no bytes", f.Tokens(true), nil)
	f.Write([]byte("aaaa"))
	wantWaiting(t, f, 4)
	wantSame(t, "four bytes", append(f.Tokens(false), f.Tokens(true)...), match.Tokens([]byte("aaaa"), 0))
	wantWaiting(t, f, 0)
}

// R4: what is written isn't changed, with its spare capacity, and may be changed
// by the caller afterwards.
func TestWriteKeepsNoArgument(t *testing.T) {
	b := sample.Story(100000)
	for level := range levels {
		want := match.Tokens(b, level)
		f := match.New(level)
		var list []api.Token
		array := make([]byte, 5000+5)
		for part := range slices.Chunk(b, 5000) {
			n := copy(array, part)
			copy(array[n:], "spare")
			f.Write(array[:n])
			list = append(list, f.Tokens(false)...)
			if !bytes.Equal(array[:n], part) || string(array[n:n+5]) != "spare" {
				t.Errorf("level %d: the argument was changed", level)
			}
			clear(array)
		}
		list = append(list, f.Tokens(true)...)
		wantSame(t, fmt.Sprint("level ", level), list, want)
	}
}

// R4: the argument of the function Tokens stays as it is as well.
func TestTokensKeepsItsArgument(t *testing.T) {
	for level := range levels {
		array := append(sample.Story(1000), "spare"...)
		list := match.Tokens(array[:1000], level)
		want := slices.Clone(list)
		if !bytes.Equal(array[:1000], sample.Story(1000)) || string(array[1000:]) != "spare" {
			t.Errorf("level %d: the argument was changed", level)
		}
		clear(array)
		wantSame(t, fmt.Sprint("level ", level), list, want)
	}
}

// R4: no result is changed by a later call, and no later call is changed by
// what the caller does with a result, also with its spare capacity.
func TestResultsAreNewMemory(t *testing.T) {
	b := sample.Story(150000)
	for level := range levels {
		want := match.Tokens(b, level)
		f := match.New(level)
		var lists, copies [][]api.Token
		var all []api.Token
		for part := range slices.Chunk(b, 10000) {
			f.Write(part)
			list := f.Tokens(false)
			lists, copies = append(lists, list), append(copies, slices.Clone(list))
			all = append(all, list...)
			spoiled := f.Tokens(false)
			spoil(spoiled)
		}
		last := f.Tokens(true)
		wantSame(t, fmt.Sprint("level ", level), append(all, last...), want)
		spoil(last)
		for i, list := range lists {
			wantSame(t, fmt.Sprintf("level %d, result %d", level, i), list, copies[i])
			spoil(list)
		}
		f.Write(b[:2000])
		wantBytes(t, append(slices.Clone(want), f.Tokens(true)...), slices.Concat(b, b[:2000]))
	}
}

// spoil changes tokens, and those of the spare capacity.
func spoil(list []api.Token) {
	list = list[:cap(list)]
	for i := range list {
		list[i] = api.Token{Lit: 1, Len: 1, Dist: 1}
	}
}

// R5: finders know nothing of each other, and the same calls have the same
// results.
func TestFindersAreApart(t *testing.T) {
	one, other := sample.Story(90000), sample.Few(90000, 3)
	for level := range levels {
		wantOne, wantOther := match.Tokens(one, level), match.Tokens(other, level)
		f, g := match.New(level), match.New(level)
		var ofF, ofG []api.Token
		for i := 0; i < 90000; i += 1500 {
			f.Write(one[i : i+1500])
			g.Write(other[i : i+1500])
			ofF = append(ofF, f.Tokens(false)...)
			ofG = append(ofG, g.Tokens(false)...)
		}
		wantSame(t, fmt.Sprint("one, level ", level), append(ofF, f.Tokens(true)...), wantOne)
		wantSame(t, fmt.Sprint("other, level ", level), append(ofG, g.Tokens(true)...), wantOther)
		wantSame(t, fmt.Sprint("one again, level ", level), match.Tokens(one, level), wantOne)
	}
}

// memory returns the number of bytes that are in use.
func memory() int {
	var stats runtime.MemStats
	runtime.GC()
	runtime.ReadMemStats(&stats)
	return int(stats.HeapAlloc)
}

// P9.1: of many bytes no more stays in memory than matches may reach, whether
// they came at once or in parts, and whether they are repeated or not.
func TestOldBytesAreNotKept(t *testing.T) {
	const total, most = 1 << 22, 3 << 20
	b := sample.Noise(total)
	for _, level := range []int{0, 9} {
		once, parts, ends := match.New(level), match.New(level), match.New(level)
		before := memory()
		once.Write(b)
		once.Tokens(true)
		for part := range slices.Chunk(b, 1<<12) {
			parts.Write(part)
			parts.Tokens(false)
			ends.Write(part)
			ends.Tokens(true)
		}
		used := memory() - before
		if used > 3*most {
			t.Errorf("level %d: %d bytes are in use", level, used)
		}
		for _, f := range []*match.Finder{once, parts, ends} {
			if waiting := f.Waiting(); waiting > mostWaiting {
				t.Errorf("level %d: %d bytes wait", level, waiting)
			}
		}
	}
}
