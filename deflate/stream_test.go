package deflate_test

import (
	"bytes"
	"fmt"
	"math"
	"slices"
	"testing"

	"concertina/api"
	"concertina/deflate"
	"concertina/internal/sample"
)

// P11.1, P11.3, example 1: the stream of no bytes has at most 10 bytes.
func TestNoBytes(t *testing.T) {
	for level := -1; level <= levels; level++ {
		what := fmt.Sprint("level ", level)
		for _, b := range [][]byte{nil, {}} {
			out := deflate.Whole(b, level)
			if len(out) == 0 || len(out) > 10 {
				t.Errorf("%s: %d bytes", what, len(out))
			}
			wantData(t, what, out, nil)
		}
		e := deflate.New(level)
		wantBytes(t, what, closed(t, e), deflate.Whole(nil, level))
	}
}

// P11.1: what is taken is a stream of the data, whose last block is marked.
func TestStream(t *testing.T) {
	eachInput(t, func(t *testing.T, b []byte, level int) {
		e := deflate.New(level)
		write(t, e, b)
		wantData(t, fmt.Sprint("level ", level), closed(t, e), b)
	})
}

// P11.1: the same for data of few bytes, and of about as many as some blocks have.
func TestStreamOfEachSize(t *testing.T) {
	sizes := []int{1, 2, 3, 4, 10, 257, 258, 259, 260, 261, 262, 263}
	for _, n := range []int{1, 2, 5} {
		for _, more := range []int{-257, -1, 0, 1, 258, 262} {
			sizes = append(sizes, n*blockSize+more)
		}
	}
	sorts := map[string][]byte{"noise": sample.Noise(100000), "the same": make([]byte, 100000), "story": sample.Story(100000)}
	for name, b := range sorts {
		t.Run(name, func(t *testing.T) {
			t.Parallel()
			for _, n := range sizes {
				for level := range levels {
					what := fmt.Sprintf("level %d, %d bytes", level, n)
					s := wantData(t, what, deflate.Whole(b[:n], level), b[:n])
					wantBlocks(t, what, s)
				}
			}
		})
	}
}

// wantBlocks looks at the sizes of the blocks.
func wantBlocks(t *testing.T, what string, s *stream) {
	t.Helper()
	for i, x := range s.blocks {
		if x.n > mostBlock {
			t.Errorf("%s: block %d has %d bytes", what, i, x.n)
		}
	}
}

// P11.1: no block has more than BlockSize + MaxMatch bytes of data, also if all
// are written at once, and if there are matches across the end of a block.
func TestSizesOfBlocks(t *testing.T) {
	t.Parallel()
	crossed := 0
	for _, b := range sample.Inputs() {
		for level := range levels {
			what := fmt.Sprintf("level %d, %d bytes", level, len(b))
			s := read(t, deflate.Whole(b, level))
			wantBlocks(t, what, s)
			if len(s.blocks) > len(b)/blockSize+1 {
				t.Errorf("%s: %d blocks", what, len(s.blocks))
			}
			for _, x := range s.blocks {
				if x.n > blockSize {
					crossed++
				}
			}
		}
	}
	if crossed == 0 {
		t.Error("no match reaches from one block into the next")
	}
}

// P11.1: matches may refer to earlier blocks, as far as WindowSize and no farther.
func TestMatchesOfEarlierBlocks(t *testing.T) {
	t.Parallel()
	b := sample.Noise(32768)
	for _, dist := range []int{16384, 16385, 20000, 32767, 32768} {
		whole := slices.Concat(b, b[len(b)-dist:][:1000])
		for level := 1; level < levels; level++ {
			s := wantData(t, fmt.Sprintf("level %d, distance %d", level, dist), deflate.Whole(whole, level), whole)
			last := s.blocks[len(s.blocks)-1]
			if last.far != dist || last.back == 0 {
				t.Errorf("level %d: the greatest distance is %d instead of %d, %d before the block", level, last.far, dist, last.back)
			}
		}
	}
	for level := 1; level < levels; level++ {
		whole := bytes.Repeat(sample.Noise(32769), 3)
		s := wantData(t, fmt.Sprint("level ", level), deflate.Whole(whole, level), whole)
		for i, x := range s.blocks {
			if x.far > 32768 {
				t.Errorf("level %d, block %d: distance %d", level, i, x.far)
			}
		}
	}
}

// P11.1: the levels are those of chapter 9: other ones count as the nearest one.
func TestLevels(t *testing.T) {
	b := sample.Story(60000)
	for _, level := range []int{-1, -2, -256, -1 << 32, math.MinInt} {
		wantBytes(t, fmt.Sprint("level ", level), deflate.Whole(b, level), deflate.Whole(b, 0))
	}
	for _, level := range []int{10, 11, 256, 1 << 32, math.MaxInt} {
		wantBytes(t, fmt.Sprint("level ", level), deflate.Whole(b, level), deflate.Whole(b, 9))
	}
	if one, nine := deflate.Whole(b, 1), deflate.Whole(b, 9); len(nine) >= len(one) {
		t.Errorf("level 9 has %d bytes, level 1 %d", len(nine), len(one))
	}
}

// P11.1: Write of nothing changes nothing.
func TestWriteOfNothing(t *testing.T) {
	b := sample.Story(20000)
	for level := range levels {
		e := deflate.New(level)
		write(t, e, nil)
		write(t, e, []byte{})
		write(t, e, b[:10000])
		write(t, e, nil)
		write(t, e, b[10000:])
		write(t, e, []byte{})
		wantBytes(t, fmt.Sprint("level ", level), closed(t, e), deflate.Whole(b, level))
	}
}

// P11.1: after Close there is nothing more to write, flush or close; what was
// not taken yet stays.
func TestAfterClose(t *testing.T) {
	t.Parallel()
	for level := range levels {
		for _, b := range [][]byte{nil, []byte("abc"), sample.Story(40000)} {
			e := deflate.New(level)
			write(t, e, b)
			first := e.Take()
			wantErr(t, "Close", e.Close(), api.OK)
			for range 2 {
				wantErr(t, "Write of nothing", e.Write(nil), api.ErrDone)
				wantErr(t, "Write", e.Write([]byte("more")), api.ErrDone)
				wantErr(t, "Write of much", e.Write(sample.Noise(100000)), api.ErrDone)
				wantErr(t, "Flush", e.Flush(), api.ErrDone)
				wantErr(t, "Close", e.Close(), api.ErrDone)
			}
			what := fmt.Sprintf("level %d, %d bytes", level, len(b))
			wantBytes(t, what, append(first, e.Take()...), deflate.Whole(b, level))
			wantErr(t, "Write", e.Write([]byte("more")), api.ErrDone)
			wantErr(t, "Flush", e.Flush(), api.ErrDone)
			wantErr(t, "Close", e.Close(), api.ErrDone)
			wantBytes(t, what+", taken again", e.Take(), nil)
		}
	}
}

// P11.1: Take removes what it returns, and returns all of it after Flush and Close.
func TestTake(t *testing.T) {
	t.Parallel()
	b := sample.Story(90000)
	for level := range levels {
		what := fmt.Sprint("level ", level)
		e := deflate.New(level)
		wantBytes(t, what+", new", e.Take(), nil)
		var all []byte
		for part := range slices.Chunk(b, 30000) {
			write(t, e, part)
			all = append(all, e.Take()...)
			wantBytes(t, what+", taken again", e.Take(), nil)
			if level == 0 && len(all) == 0 {
				t.Error("of 30000 bytes not one block is there")
			}
		}
		all = append(all, flushed(t, e)...)
		wantBytes(t, what+", taken again", e.Take(), nil)
		wantFlushed(t, what, all, b)
		write(t, e, b[:50])
		wantErr(t, "Close", e.Close(), api.OK)
		all = append(all, e.Take()...)
		wantBytes(t, what+", taken again", e.Take(), nil)
		wantData(t, what, all, slices.Concat(b, b[:50]))
	}
}

// P11.1: Take returns complete bytes only: together they are the same whether
// they are taken after each byte or at the end.
func TestTakeAfterEachByte(t *testing.T) {
	t.Parallel()
	b := sample.Few(40000, 60)
	for _, level := range []int{0, 1, 6} {
		e := deflate.New(level)
		var all []byte
		for i := range b {
			write(t, e, b[i:i+1])
			all = append(all, e.Take()...)
		}
		wantBytes(t, fmt.Sprint("level ", level), append(all, closed(t, e)...), deflate.Whole(b, level))
	}
}
