package deflate_test

import (
	"fmt"
	"math/rand"
	"testing"

	"concertina/deflate"
	"concertina/internal/expect"
	"concertina/internal/sample"
)

// P11.2: the stream is the same however the data are divided among Writes, and
// whenever Take is called.
func TestStreamInParts(t *testing.T) {
	eachInput(t, func(t *testing.T, b []byte, level int) {
		want := deflate.Whole(b, level)
		sizes := []int{1, 7, 258, 261, 262, 5000}
		if len(b) > 30000 { // each takes long
			sizes = []int{3, 262, 16384, 16385, 50000}
		}
		for i, n := range sizes {
			what := fmt.Sprintf("level %d, parts of %d bytes", level, n)
			got := expect.Encode(t, deflate.New(level), b, sample.Always(n), sample.Always(i%3))
			wantBytes(t, what, got, want)
		}
	})
}

// P11.2: the same for parts of random sizes, and Take at random.
func TestStreamInRandomParts(t *testing.T) {
	eachInput(t, func(t *testing.T, b []byte, level int) {
		random := rand.New(rand.NewSource(int64(level)))
		want := deflate.Whole(b, level)
		for _, most := range []int{300, 60000} {
			size := func() int { return random.Intn(most) }
			times := func() int { return random.Intn(3) }
			got := expect.Encode(t, deflate.New(level), b, size, times)
			wantBytes(t, fmt.Sprintf("level %d, parts below %d bytes", level, most), got, want)
		}
	})
}

// P11.2: the same for data of little more than a block that are divided at each
// place where that may matter.
func TestStreamInTwoParts(t *testing.T) {
	t.Parallel()
	for _, b := range [][]byte{sample.Noise(17000), make([]byte, 17000), sample.Story(17000)} {
		for _, level := range []int{0, 1, 6, 9} {
			want := deflate.Whole(b, level)
			for _, i := range []int{0, 1, 2, 3, 262, 16122, 16123, 16383, 16384, 16385, 16641, 16642, 16643, 16999, 17000} {
				e := deflate.New(level)
				write(t, e, b[:i])
				all := e.Take()
				write(t, e, b[i:])
				wantBytes(t, fmt.Sprintf("level %d, divided at %d", level, i), append(all, closed(t, e)...), want)
			}
		}
	}
}

// P11.3: Whole is New, Write and Close, with all bytes.
func TestWhole(t *testing.T) {
	eachInput(t, func(t *testing.T, b []byte, level int) {
		e := deflate.New(level)
		write(t, e, b)
		out := deflate.Whole(b, level)
		wantBytes(t, fmt.Sprint("level ", level), out, closed(t, e))
		wantData(t, fmt.Sprint("level ", level), out, b)
	})
	for _, level := range []int{-7, 17} {
		e := deflate.New(level)
		write(t, e, sample.Story(3000))
		wantBytes(t, fmt.Sprint("level ", level), deflate.Whole(sample.Story(3000), level), closed(t, e))
	}
}
