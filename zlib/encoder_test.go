package zlib_test

import (
	"bytes"
	stdzlib "compress/zlib"
	"fmt"
	"io"
	"math"
	"math/rand"
	"slices"
	"strings"
	"testing"

	"concertina/api"
	"concertina/deflate"
	"concertina/inflate"
	"concertina/internal/expect"
	"concertina/internal/sample"
	"concertina/zlib"
)

// levels is the number of levels, from 0 on.
const levels = 10

// encoded returns the file with these data.
func encoded(t *testing.T, level int, b []byte) []byte {
	t.Helper()
	e := zlib.New(level)
	write(t, e, b)
	return closed(t, e)
}

// wantEncoded looks whether bytes are a file of the encoder with these data: the two
// bytes, a stream, the checksum, and nothing else.
func wantEncoded(t *testing.T, what string, b []byte, data []byte) {
	t.Helper()
	if !strings.HasPrefix(string(b), begin) {
		t.Fatalf("%s: begins with %x", what, b[:min(2, len(b))])
	}
	out, tail, err := inflate.Whole(b[2:], far)
	wantErr(t, what, err, api.OK)
	wantBytes(t, what, out, data)
	wantBytes(t, what+", behind the stream", tail, []byte(sum(data)))
}

// wantReadByLibrary looks whether the library reads a file with these data.
func wantReadByLibrary(t *testing.T, what string, b []byte, data []byte) {
	t.Helper()
	source := bytes.NewReader(b)
	r, err := stdzlib.NewReader(source)
	if err != nil {
		t.Fatalf("%s: %v", what, err)
	}
	out, err := io.ReadAll(r)
	if err != nil || source.Len() > 0 {
		t.Errorf("%s: %v, %d bytes behind", what, err, source.Len())
	}
	wantBytes(t, what, out, data)
}

// P14.1: the output is a zlib file with the written data, at every level.
func TestEncoder(t *testing.T) {
	for name, data := range sample.Inputs() {
		t.Run(name, func(t *testing.T) {
			t.Parallel()
			for level := range levels {
				b := encoded(t, level, data)
				what := fmt.Sprint("level ", level)
				wantEncoded(t, what, b, data)
				wantReadByLibrary(t, what, b, data)
				wantSame(t, what, read(b, far, true), result{data, api.ErrDone})
			}
		})
	}
}

// Example 1: a file without data; and some other small ones, byte by byte.
func TestSmallFiles(t *testing.T) {
	for data, want := range map[string]string{
		"":          "\x78\x9c\x03\x00\x00\x00\x00\x01",
		"a":         "\x78\x9c\x4b\x04\x00\x00\x62\x00\x62",
		"abc":       "\x78\x9c\x4b\x4c\x4a\x06\x00\x02\x4d\x01\x27",
		"abcabcabc": "\x78\x9c\x4b\x4c\x4a\x4e\x04\x23\x00\x11\x3d\x03\x73",
		"some data": "\x78\x9c\x01\x09\x00\xf6\xffsome data\x11\x81\x03\x6f",
	} {
		wantFile(t, data, []byte(want), []byte(data))
		wantEncoded(t, data, []byte(want), []byte(data))
		wantEncoded(t, data, encoded(t, 6, []byte(data)), []byte(data))
	}
}

// P14.1: the first two bytes are the same at every level, also at those that count
// as the nearest one; they are there from the beginning, once.
func TestFirstBytesOfTheEncoder(t *testing.T) {
	for _, level := range []int{math.MinInt, -1, 0, 1, 2, 3, 4, 5, 6, 7, 8, 9, 10, 255, math.MaxInt} {
		for _, data := range []string{"", "a", strings.Repeat("data, ", 20000)} {
			b := encoded(t, level, []byte(data))
			if b[0] != 120 || b[1] != 156 {
				t.Errorf("level %d, %d bytes: begins with %d, %d", level, len(data), b[0], b[1])
			}
		}
		e := zlib.New(level)
		all := e.Take()
		wantBytes(t, "taken again", e.Take(), nil)
		wantErr(t, "Close", e.Close(), api.OK)
		wantEncoded(t, "no data", append(all, e.Take()...), nil)
	}
}

// P14.1: the checksum is that of the data, also where its halves wrap.
func TestEncoderSums(t *testing.T) {
	for _, n := range []int{1, 255, 256, 257, 258, 5551, 5552, 5553, 65520, 65521, 65522, 300000} {
		for _, v := range []byte{0, 1, 254, 255} {
			data := bytes.Repeat([]byte{v}, n)
			b := encoded(t, 6, data)
			wantBytes(t, fmt.Sprintf("%d times %d", n, v), b[len(b)-4:], []byte(sum(data)))
		}
	}
}

// P14.1: the stream is as chapter 11 has it: from level 1 on compressed, and never
// much longer than the data.
func TestEncoderSizes(t *testing.T) {
	for _, n := range []int{0, 1, 300, 3000, 16384, 16385, 100000} {
		for level := range levels {
			most := 2 + n + 6*((n+16383)/16384) + 6 + 4
			for name, data := range map[string][]byte{"noise": sample.Noise(n), "zeros": make([]byte, n)} {
				if b := encoded(t, level, data); len(b) > most {
					t.Errorf("level %d: %d bytes of %s become %d", level, n, name, len(b))
				}
			}
			if b := encoded(t, level, make([]byte, n)); level > 0 && n >= 3000 && len(b)-6 >= n/4 {
				t.Errorf("level %d: %d zeros become %d bytes", level, n, len(b))
			}
		}
	}
}

// P14.1: the levels are those of chapter 11: other ones count as the nearest one.
func TestEncoderLevels(t *testing.T) {
	b := sample.Story(60000)
	for level := range levels {
		want := begin + string(deflate.Whole(b, level)) + sum(b)
		wantBytes(t, fmt.Sprint("level ", level), encoded(t, level, b), []byte(want))
	}
	for _, level := range []int{-1, -2, -256, math.MinInt} {
		wantBytes(t, fmt.Sprint("level ", level), encoded(t, level, b), encoded(t, 0, b))
	}
	for _, level := range []int{10, 11, 256, math.MaxInt} {
		wantBytes(t, fmt.Sprint("level ", level), encoded(t, level, b), encoded(t, 9, b))
	}
	zero, one, nine := encoded(t, 0, b), encoded(t, 1, b), encoded(t, 9, b)
	if len(nine) >= len(one) || len(one) >= len(zero) {
		t.Errorf("level 0 has %d bytes, level 1 %d, level 9 %d", len(zero), len(one), len(nine))
	}
}

// P14.1: neither how the data are divided among Writes nor when Take is called
// changes the file.
func TestEncoderInParts(t *testing.T) {
	random := rand.New(rand.NewSource(1))
	for name, data := range map[string][]byte{"nothing": nil, "one": []byte("a"), "story": sample.Story(70000), "noise": sample.Noise(40000)} {
		for level := range levels {
			want := encoded(t, level, data)
			for _, most := range []int{300, 5000, 60000} {
				size := func() int { return random.Intn(most) }
				times := func() int { return random.Intn(3) }
				b := expect.Encode(t, zlib.New(level), data, size, times)
				wantBytes(t, fmt.Sprintf("%s, level %d, parts below %d bytes", name, level, most), b, want)
			}
		}
	}
}

// P14.1: each byte is written and taken alone.
func TestEncoderByteByByte(t *testing.T) {
	data := sample.Story(20000)
	for _, level := range []int{0, 1, 6} {
		b := expect.Encode(t, zlib.New(level), data, always(1), always(1))
		wantBytes(t, fmt.Sprint("level ", level), b, encoded(t, level, data))
	}
}

// P14.1: Write of nothing changes nothing.
func TestWriteOfNothing(t *testing.T) {
	e := zlib.New(6)
	write(t, e, nil)
	write(t, e, []byte("abc"))
	write(t, e, []byte{})
	write(t, e, []byte("def"))
	write(t, e, nil)
	wantBytes(t, "file", closed(t, e), encoded(t, 6, []byte("abcdef")))
}

// P14.1: Take removes what it returns. Before Close it does not return the end of
// the file, and after Close all that remains.
func TestEncoderTake(t *testing.T) {
	data := sample.Story(90000)
	for level := range levels {
		e := zlib.New(level)
		all := e.Take()
		wantBytes(t, "taken again", e.Take(), nil)
		for part := range slices.Chunk(data, 30000) {
			write(t, e, part)
			all = append(all, e.Take()...)
			wantBytes(t, "taken again", e.Take(), nil)
		}
		if most := 2 + len(deflate.Whole(data, level)); len(all) > most {
			t.Errorf("level %d: %d bytes before Close, %d with the whole stream", level, len(all), most)
		}
		if level == 0 && len(all) < 60000 {
			t.Errorf("of 90000 bytes %d are there", len(all))
		}
		all = append(all, closed(t, e)...)
		wantBytes(t, "taken again", e.Take(), nil)
		wantEncoded(t, fmt.Sprint("level ", level), all, data)
	}
}

// P14.1: after Close there is nothing more to write or to close; what was not taken
// yet stays, and nothing comes to it.
func TestAfterClose(t *testing.T) {
	for _, data := range [][]byte{nil, []byte("abc"), sample.Story(40000)} {
		for level := range levels {
			for _, early := range []bool{false, true} {
				all := expect.AfterClose(t, zlib.New(level), data, early)
				wantBytes(t, "file", all, encoded(t, level, data))
			}
		}
	}
}

// P14.2: a nil encoder is done. R1: so is one that New did not make.
func TestNoEncoder(t *testing.T) {
	expect.NoEncoder(t, (*zlib.Encoder)(nil))
	expect.NoEncoder(t, new(zlib.Encoder))
}
