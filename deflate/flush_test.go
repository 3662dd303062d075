package deflate_test

import (
	"fmt"
	"slices"
	"testing"

	"concertina/api"
	"concertina/deflate"
	"concertina/internal/sample"
)

// emptyBlock is a stored block without bytes at a byte boundary, and not the
// last one.
const emptyBlock = "\x00\x00\x00\xff\xff"

// P11.1: Flush before anything was written appends a stored block without
// bytes, and so does each further one.
func TestFlushOfNothing(t *testing.T) {
	for level := range levels {
		what := fmt.Sprint("level ", level)
		e := deflate.New(level)
		var all []byte
		for range 3 {
			out := flushed(t, e)
			wantBytes(t, what, out, []byte(emptyBlock))
			all = append(all, out...)
		}
		write(t, e, nil)
		all = append(all, flushed(t, e)...)
		if s := wantFlushed(t, what, all, nil); len(s.blocks) != 4 {
			t.Errorf("%s: the blocks are %+v", what, s.blocks)
		}
		wantData(t, what, append(all, closed(t, e)...), nil)
	}
}

// P11.1: after Flush all data so far are there, and the stream goes on.
func TestFlush(t *testing.T) {
	eachInput(t, func(t *testing.T, b []byte, level int) {
		e := deflate.New(level)
		var all []byte
		n := 0
		for part := range slices.Chunk(b, len(b)/4+1) {
			write(t, e, part)
			n += len(part)
			all = append(all, flushed(t, e)...)
			wantBlocks(t, "flushed", wantFlushed(t, fmt.Sprintf("level %d, %d bytes", level, n), all, b[:n]))
		}
		write(t, e, b)
		s := wantData(t, fmt.Sprint("level ", level), append(all, closed(t, e)...), slices.Concat(b, b))
		wantBlocks(t, "closed", s)
	})
}

// P11.1: the same for parts of few bytes, with nothing taken in between.
func TestManyFlushes(t *testing.T) {
	t.Parallel()
	for _, b := range [][]byte{sample.Noise(600), make([]byte, 600), sample.Story(600)} {
		for level := range levels {
			for _, n := range []int{1, 2, 3, 4, 100, 259, 600} {
				e := deflate.New(level)
				var parts [][]byte
				for part := range slices.Chunk(b, n) {
					write(t, e, part)
					wantErr(t, "Flush", e.Flush(), api.OK)
					parts = append(parts, part)
				}
				what := fmt.Sprintf("level %d, parts of %d bytes", level, n)
				s := wantData(t, what, closed(t, e), b)
				wantParts(t, what, s, parts)
			}
		}
	}
}

// wantParts looks whether there are a block with the data of each part, a
// stored one without bytes behind it, and the last one without data.
func wantParts(t *testing.T, what string, s *stream, parts [][]byte) {
	t.Helper()
	for i, part := range parts {
		if 2*i+1 >= len(s.blocks) || s.blocks[2*i].n != len(part) || s.blocks[2*i+1] != (readBlock{}) {
			t.Fatalf("%s: the blocks are %+v", what, s.blocks)
		}
	}
	if len(s.blocks) != 2*len(parts)+1 || s.blocks[2*len(parts)].n != 0 {
		t.Errorf("%s: the blocks are %+v", what, s.blocks)
	}
}

// P11.1: Flush at about the end of a block, twice in a row.
func TestFlushAtTheEndOfABlock(t *testing.T) {
	t.Parallel()
	for _, b := range [][]byte{sample.Noise(40000), make([]byte, 40000), sample.Story(40000)} {
		for _, n := range []int{blockSize - 1, blockSize, blockSize + 1, blockSize + 258, 2 * blockSize} {
			for level := range levels {
				what := fmt.Sprintf("level %d, %d bytes", level, n)
				e := deflate.New(level)
				write(t, e, b[:n])
				all := flushed(t, e)
				s := wantFlushed(t, what, all, b[:n])
				for i, x := range s.blocks[:len(s.blocks)-1] {
					if x.n == 0 {
						t.Errorf("%s: block %d has no data", what, i)
					}
				}
				wantBytes(t, what, flushed(t, e), []byte(emptyBlock))
				write(t, e, b[n:])
				s = wantData(t, what, append(all, closed(t, e)...), b)
				wantBlocks(t, what, s)
			}
		}
	}
}

// P11.1: Flush right before Close: a last block without data follows.
func TestFlushBeforeClose(t *testing.T) {
	for _, b := range [][]byte{nil, []byte("a"), sample.Story(20000)} {
		for level := range levels {
			what := fmt.Sprintf("level %d, %d bytes", level, len(b))
			e := deflate.New(level)
			write(t, e, b)
			wantErr(t, "Flush", e.Flush(), api.OK)
			s := wantData(t, what, closed(t, e), b)
			if n := len(s.blocks); n < 2 || s.blocks[n-2] != (readBlock{}) || s.blocks[n-1].n != 0 {
				t.Errorf("%s: the blocks are %+v", what, s.blocks)
			}
		}
	}
}

// P11.1: after a Flush matches still reach what was written before it.
func TestMatchAcrossAFlush(t *testing.T) {
	b := sample.Noise(1000)
	for level := 1; level < levels; level++ {
		e := deflate.New(level)
		write(t, e, b)
		all := flushed(t, e)
		write(t, e, b)
		more := flushed(t, e)
		if len(more) > len(b)/4 {
			t.Errorf("level %d: %d bytes for what was there before", level, len(more))
		}
		wantFlushed(t, fmt.Sprint("level ", level), append(all, more...), slices.Concat(b, b))
	}
}

// P11.1, P11.2: with a Flush at the same places too the stream does not depend
// on the parts of the data in between.
func TestPartsBetweenFlushes(t *testing.T) {
	t.Parallel()
	b := sample.Story(120000)
	for level := range levels {
		var want []byte
		for i, n := range []int{120000, 7, 261, 20000} {
			e := deflate.New(level)
			for piece := range slices.Chunk(b, 40000) {
				for part := range slices.Chunk(piece, n) {
					write(t, e, part)
				}
				wantErr(t, "Flush", e.Flush(), api.OK)
			}
			got := closed(t, e)
			if i == 0 {
				want = got
			}
			wantBytes(t, fmt.Sprintf("level %d, parts of %d bytes", level, n), got, want)
		}
	}
}
