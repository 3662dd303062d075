package zlib_test

import (
	"bytes"
	stdzlib "compress/zlib"
	"fmt"
	"math"
	"slices"
	"testing"

	"concertina/api"
	"concertina/internal/sample"
	"concertina/zlib"
)

// P14.2: the data of a file, which is fed and taken in all ways.
func TestFiles(t *testing.T) {
	t.Parallel()
	for _, data := range []string{"", "a", "abc", "abcabcabcabc", string(sample.Story(3000)), string(sample.Noise(300))} {
		wantFile(t, fmt.Sprintf("%d bytes", len(data)), file(data), []byte(data))
	}
}

// P14.2: the data of what P14.1 makes, at every level.
func TestFilesOfTheEncoder(t *testing.T) {
	for name, data := range sample.Inputs() {
		t.Run(name, func(t *testing.T) {
			t.Parallel()
			for level := range levels {
				b := encoded(t, level, data)
				want := result{data, api.ErrDone}
				what := fmt.Sprint("level ", level)
				wantSame(t, what, whole(b, len(data), true), want)
				wantSame(t, what+", in parts", inParts(t, b, len(data), always(20000), 5000, level%2 == 0), want)
			}
		})
	}
}

// libraryFile returns a file of the library.
func libraryFile(t *testing.T, level int, data []byte) []byte {
	t.Helper()
	var b bytes.Buffer
	w, err := stdzlib.NewWriterLevel(&b, level)
	if err != nil {
		t.Fatal(err)
	}
	w.Write(data)
	w.Close()
	return b.Bytes()
}

// P14.2: the data of what another encoder makes, whose first bytes tell its level.
func TestFilesOfTheLibrary(t *testing.T) {
	t.Parallel()
	for name, data := range sample.Inputs() {
		seen := map[byte]bool{}
		for level := stdzlib.HuffmanOnly; level <= 9; level++ {
			b := libraryFile(t, level, data)
			seen[b[1]] = true
			wantSame(t, fmt.Sprintf("%s, level %d", name, level), whole(b, len(data), true), result{data, api.ErrDone})
		}
		if len(seen) != 4 {
			t.Errorf("second bytes %v", seen)
		}
	}
}

// P14.2: before anything was fed, and also if the end is marked then, there is
// neither a byte nor an end.
func TestNothingFed(t *testing.T) {
	for _, most := range []int{-1, 0, 100} {
		d := zlib.NewDecoder(most)
		for range 2 {
			for _, n := range []int{1, 2, 100, math.MaxInt} {
				wantTake(t, d, n, "", api.ErrEnd)
			}
			for _, n := range []int{0, -1, -100, math.MinInt} {
				wantTake(t, d, n, "", api.OK)
			}
			d.Feed(nil)
			d.Feed([]byte{})
		}
		d.End()
		for range 2 {
			wantStays(t, d, api.ErrEnd)
			d.Feed(file("abc"))
			d.End()
		}
	}
}

// P14.2: OK with as many bytes as asked for; ErrEnd with fewer, and without any if
// more input or the end is needed; ErrDone at the end.
func TestTake(t *testing.T) {
	d := zlib.NewDecoder(far)
	b := file("abcdefgh")
	d.Feed(b[:1])
	wantTake(t, d, 1, "", api.ErrEnd)
	d.Feed(b[1:])
	wantTake(t, d, 2, "ab", api.OK)
	wantTake(t, d, 0, "", api.OK)
	wantTake(t, d, -5, "", api.OK)
	wantTake(t, d, math.MinInt, "", api.OK)
	wantTake(t, d, 5, "cdefg", api.OK)
	wantTake(t, d, 9, "h", api.ErrEnd)
	wantTake(t, d, 9, "", api.ErrEnd)
	wantTake(t, d, 1, "", api.ErrEnd)
	d.End()
	for range 3 {
		wantStays(t, d, api.ErrDone)
	}
}

// P14.2: all data at once, and one more byte than there are.
func TestTakeOfAll(t *testing.T) {
	for _, end := range []bool{false, true} {
		for _, n := range []int{6, 7, 100, math.MaxInt} {
			d := zlib.NewDecoder(6)
			d.Feed(file("abcdef"))
			if end {
				d.End()
			}
			want, last := api.ErrEnd, api.ErrEnd
			if n == 6 {
				want = api.OK
			}
			if end {
				last = api.ErrDone
			}
			wantTake(t, d, n, "abcdef", want)
			wantStays(t, d, last)
		}
	}
}

// P14.2: behind the file the end is needed; to feed nothing changes nothing.
func TestBehindTheFile(t *testing.T) {
	for _, data := range []string{"", "data"} {
		d := zlib.NewDecoder(far)
		d.Feed(file(data))
		out, err := takeAll(t, d, 3)
		wantBytes(t, "output", out, []byte(data))
		wantErr(t, "behind it", err, api.ErrEnd)
		for range 3 {
			wantStays(t, d, api.ErrEnd)
			d.Feed(nil)
			d.Feed([]byte{})
		}
		d.End()
		wantStays(t, d, api.ErrDone)
		d.End()
		wantStays(t, d, api.ErrDone)
	}
}

// P14.2: End may be called with the last byte, behind it, and when all was taken.
func TestEnd(t *testing.T) {
	for _, data := range []string{"", "a", "abc"} {
		for taken := range 3 {
			d := zlib.NewDecoder(far)
			d.Feed(file(data))
			var out []byte
			if taken > 0 {
				out, _ = d.Take(2)
			}
			if taken > 1 {
				more, err := takeAll(t, d, 10)
				out = append(out, more...)
				wantErr(t, "before End", err, api.ErrEnd)
			}
			d.End()
			d.End()
			more, err := takeAll(t, d, 10)
			wantErr(t, "behind End", err, api.ErrDone)
			wantBytes(t, "output", append(out, more...), []byte(data))
		}
	}
}

// P14.2: with an end before that of the file, all data that can be known come first,
// then an error that stays. What is fed behind the end is ignored.
func TestEndWithinAFile(t *testing.T) {
	data := "some data, and some more of them"
	b := file(data)
	for i := range b {
		for taken := range 2 {
			d := zlib.NewDecoder(far)
			d.Feed(b[:i])
			var before []byte
			if taken > 0 {
				before, _ = takeAll(t, d, 3)
			}
			d.End()
			for round := range 2 {
				d.Feed(b[i:])
				out, err := takeAll(t, d, 2)
				what := fmt.Sprintf("%d bytes, round %d", i, round)
				wantErr(t, what, err, api.ErrEnd)
				before = append(before, out...)
				wantBytes(t, what, before, read(b[:i], far, true).out)
				wantStays(t, d, api.ErrEnd)
				d.End()
			}
		}
	}
}

// P14.2: what is fed behind the end is ignored, also where it would be wrong, and
// before anything was taken.
func TestFedBehindEnd(t *testing.T) {
	for _, more := range [][]byte{{0}, {0x78}, []byte("more"), file("more")} {
		d := zlib.NewDecoder(far)
		d.Feed(file("abc"))
		d.End()
		d.Feed(more)
		wantTake(t, d, 2, "ab", api.OK)
		d.Feed(more)
		wantTake(t, d, 2, "c", api.ErrEnd)
		d.Feed(more)
		wantStays(t, d, api.ErrDone)
		d.Feed(more)
		wantStays(t, d, api.ErrDone)
	}
}

// P14.2: as many bytes as are available: after each byte of a file those that can be
// known from what was fed.
func TestAvailable(t *testing.T) {
	for name, b := range map[string][]byte{
		"small":  file("abc"),
		"large":  file(slices.Concat(sample.Story(3000), sample.Noise(300))),
		"stored": encoded(t, 0, sample.Noise(20000)),
		"broken": append(file("abc"), 0),
	} {
		d := zlib.NewDecoder(far)
		n := 0
		for i := range b {
			d.Feed(b[i : i+1])
			x := read(b[:i+1], far, false)
			out, err := takeAll(t, d, everything)
			what := fmt.Sprintf("%s, %d bytes", name, i+1)
			wantBytes(t, what, out, x.out[n:])
			wantErr(t, what, err, x.err)
			n = len(x.out)
		}
	}
}

// P14.2: a nil decoder is done, and has nothing.
func TestNilDecoder(t *testing.T) {
	var d *zlib.Decoder
	for range 2 {
		d.Feed(file("abc"))
		d.Feed(nil)
		for _, n := range []int{-1, 0, 1, 100, math.MinInt, math.MaxInt} {
			wantTake(t, d, n, "", api.ErrDone)
		}
		d.End()
	}
}

// R1: a decoder that NewDecoder did not make has the limit 0.
func TestZeroDecoder(t *testing.T) {
	d := new(zlib.Decoder)
	wantStays(t, d, api.ErrEnd)
	d.Feed(file(""))
	wantStays(t, d, api.ErrEnd)
	d.End()
	wantStays(t, d, api.ErrDone)
	d = new(zlib.Decoder)
	d.Feed(file("abc"))
	wantStays(t, d, api.ErrCap)
}
