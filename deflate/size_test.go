package deflate_test

import (
	"bytes"
	"fmt"
	"slices"
	"testing"

	"concertina/api"
	"concertina/deflate"
	"concertina/internal/sample"
)

// P11.2: at level 0 all blocks are Stored, also with a Flush.
func TestLevel0(t *testing.T) {
	t.Parallel()
	for _, level := range []int{0, -1} {
		for _, b := range sample.Inputs() {
			what := fmt.Sprintf("level %d, %d bytes", level, len(b))
			wantStored(t, what, wantData(t, what, deflate.Whole(b, level), b))
			e := deflate.New(level)
			wantErr(t, "Flush", e.Flush(), api.OK)
			for part := range slices.Chunk(b, 10001) {
				write(t, e, part)
				wantErr(t, "Flush", e.Flush(), api.OK)
			}
			wantStored(t, what+", flushed", wantData(t, what, closed(t, e), b))
		}
	}
}

// wantStored looks whether all blocks are stored ones.
func wantStored(t *testing.T, what string, s *stream) {
	t.Helper()
	for i, x := range s.blocks {
		if x.kind != api.Stored {
			t.Errorf("%s: block %d is of kind %d", what, i, x.kind)
		}
	}
}

// wantLength looks whether a stream is not too much longer than its data.
func wantLength(t *testing.T, what string, out, b []byte) {
	t.Helper()
	if most := len(b) + 6*((len(b)+blockSize-1)/blockSize) + 6; len(out) > most {
		t.Errorf("%s: %d bytes become %d, more than %d", what, len(b), len(out), most)
	}
}

// P11.2: at each level the stream is at most 6 bytes for each BlockSize bytes or
// part of them, plus 6, longer than the data.
func TestLength(t *testing.T) {
	eachInput(t, func(t *testing.T, b []byte, level int) {
		wantLength(t, fmt.Sprint("level ", level), deflate.Whole(b, level), b)
	})
}

// P11.2: the same for data that cannot be compressed, of each size up to some,
// and of about as many bytes as some blocks have.
func TestLengthOfNoise(t *testing.T) {
	b := sample.Noise(10 * blockSize)
	var sizes []int
	for n := range 300 {
		sizes = append(sizes, n)
	}
	for n := 1; n < 10; n += 2 {
		sizes = append(sizes, n*blockSize-1, n*blockSize, n*blockSize+1)
	}
	for level := range levels {
		t.Run(fmt.Sprint("level ", level), func(t *testing.T) {
			t.Parallel()
			for _, n := range sizes {
				wantLength(t, "noise", deflate.Whole(b[:n], level), b[:n])
			}
		})
	}
}

// P11.2: the same for data that can hardly be compressed, so that blocks of all
// kinds begin at any bit.
func TestLengthOfMixedData(t *testing.T) {
	t.Parallel()
	b := sample.Noise(200000)
	for i := range b {
		// Of each 20000 bytes, about half have a few bits less.
		if i/1000%20 < 11 {
			b[i] %= 250 - byte(i/20000)
		}
	}
	for level := range levels {
		for _, n := range []int{20000, 50000, 200000} {
			what := fmt.Sprintf("level %d, %d bytes", level, n)
			out := deflate.Whole(b[:n], level)
			wantLength(t, what, out, b[:n])
			wantData(t, what, out, b[:n])
		}
	}
}

// P11.2: from level 1 on the same byte 3000 times and more becomes less than a
// quarter.
func TestTheSameByte(t *testing.T) {
	t.Parallel()
	for _, n := range []int{3000, 3001, 5000, blockSize, blockSize + 1, 100000, 1000000} {
		for _, v := range []byte{0, 'a', 255} {
			b := bytes.Repeat([]byte{v}, n)
			for level := 1; level <= levels; level++ {
				out := deflate.Whole(b, level)
				if 4*len(out) >= n {
					t.Errorf("level %d: %d bytes become %d", level, n, len(out))
				}
				if n < 100000 {
					wantData(t, fmt.Sprintf("level %d, %d bytes", level, n), out, b)
				}
			}
		}
	}
}
