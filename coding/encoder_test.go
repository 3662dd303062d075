package coding_test

import (
	"bytes"
	stdgzip "compress/gzip"
	stdzlib "compress/zlib"
	"fmt"
	"io"
	"math"
	"math/rand"
	"slices"
	"testing"

	"concertina/api"
	"concertina/coding"
	"concertina/internal/expect"
	"concertina/internal/sample"
)

// zeroHeader are the bytes of a zero header.
const zeroHeader = "\x1f\x8b\x08\x00\x00\x00\x00\x00\x00\x00"

// wantEncoded compares what an encoder made of data with what it should make of them.
func wantEncoded(t *testing.T, c, level int, got, data []byte) {
	t.Helper()
	what := fmt.Sprintf("coding %d, level %d", c, level)
	wantBytes(t, what, got, encoded(t, c, level, data))
	wantBytes(t, what+", read by the library", libraryReads(t, c, got), data)
}

// libraryReads returns the data of bytes in a coding.
func libraryReads(t *testing.T, c int, b []byte) []byte {
	t.Helper()
	var r io.Reader
	var err error
	source := bytes.NewReader(b)
	switch c {
	case api.Gzip:
		r, err = stdgzip.NewReader(source)
	case api.Zlib:
		r, err = stdzlib.NewReader(source)
	default:
		return b
	}
	if err != nil {
		t.Errorf("coding %d: %v", c, err)
		return nil
	}
	out, err := io.ReadAll(r)
	if err != nil || source.Len() > 0 {
		t.Errorf("coding %d: %v, %d bytes behind", c, err, source.Len())
	}
	return out
}

// encode returns what an encoder makes of data.
func encode(t *testing.T, c, level int, data []byte) []byte {
	t.Helper()
	e := coding.NewEncoder(c, level)
	write(t, e, data)
	return closed(t, e)
}

// P15.2: each coding, at every level, and values that are none, which leave the bytes
// as they are.
func TestEncoder(t *testing.T) {
	for name, data := range sample.Inputs() {
		t.Run(name, func(t *testing.T) {
			t.Parallel()
			for level := range levels {
				for _, c := range all {
					wantEncoded(t, c, level, encode(t, c, level, data), data)
				}
			}
		})
	}
}

// P15.2: the small ones byte by byte.
func TestEncodedBytes(t *testing.T) {
	for c, want := range map[int]string{
		api.Identity: "abc",
		api.Other:    "abc",
		-1:           "abc",
		4:            "abc",
		api.Gzip:     zeroHeader + "\x4b\x4c\x4a\x06\x00\xc2\x41\x24\x35\x03\x00\x00\x00",
		api.Zlib:     "\x78\x9c\x4b\x4c\x4a\x06\x00\x02\x4d\x01\x27",
	} {
		wantBytes(t, fmt.Sprint("coding ", c), encode(t, c, 6, []byte("abc")), []byte(want))
	}
	for c, want := range map[int]string{
		api.Identity: "",
		api.Other:    "",
		api.Gzip:     zeroHeader + "\x03\x00\x00\x00\x00\x00\x00\x00\x00\x00",
		api.Zlib:     "\x78\x9c\x03\x00\x00\x00\x00\x01",
	} {
		wantBytes(t, fmt.Sprint("no data, coding ", c), closed(t, coding.NewEncoder(c, 6)), []byte(want))
	}
}

// P15.2: other levels count as the nearest one; for unchanged bytes each is the same.
func TestEncoderLevels(t *testing.T) {
	t.Parallel()
	data := sample.Story(60000)
	for _, c := range all {
		for _, level := range []int{-1, -256, math.MinInt} {
			wantBytes(t, fmt.Sprint("level ", level), encode(t, c, level, data), encode(t, c, 0, data))
		}
		for _, level := range []int{10, 256, math.MaxInt} {
			wantBytes(t, fmt.Sprint("level ", level), encode(t, c, level, data), encode(t, c, 9, data))
		}
		zero, one, nine := len(encode(t, c, 0, data)), len(encode(t, c, 1, data)), len(encode(t, c, 9, data))
		if isPacked(c) && (nine >= one || one >= zero) {
			t.Errorf("coding %d: level 0 has %d bytes, level 1 %d, level 9 %d", c, zero, one, nine)
		}
	}
}

// P15.2: neither how the data are divided among Writes nor when Take is called changes
// the bytes.
func TestEncoderInParts(t *testing.T) {
	t.Parallel()
	random := rand.New(rand.NewSource(15))
	for _, data := range [][]byte{nil, []byte("a"), sample.Story(70000), sample.Noise(40000)} {
		for _, c := range all {
			for _, most := range []int{300, 5000, 60000} {
				size := func() int { return random.Intn(most) }
				times := func() int { return random.Intn(3) }
				b := expect.Encode(t, coding.NewEncoder(c, 6), data, size, times)
				wantEncoded(t, c, 6, b, data)
			}
		}
	}
}

// P15.2: unchanged bytes are there as soon as they are written, and once.
func TestPlainEncoder(t *testing.T) {
	data := sample.Noise(4995)
	for _, c := range plain {
		e := coding.NewEncoder(c, 6)
		wantBytes(t, "before anything was written", e.Take(), nil)
		for part := range slices.Chunk(data, 999) {
			write(t, e, part[:100])
			wantBytes(t, "first part", e.Take(), part[:100])
			wantBytes(t, "taken again", e.Take(), nil)
			write(t, e, nil)
			write(t, e, part[100:200])
			write(t, e, []byte{})
			write(t, e, part[200:])
			wantBytes(t, "two parts", e.Take(), part[100:])
			wantBytes(t, "taken again", e.Take(), nil)
		}
		write(t, e, []byte("end"))
		wantBytes(t, "after Close", closed(t, e), []byte("end"))
		wantBytes(t, "taken again", e.Take(), nil)
	}
}

// P15.2: after Close there is nothing more to write or to close; what was not taken
// yet stays, and nothing comes to it.
func TestAfterClose(t *testing.T) {
	for _, c := range all {
		for _, data := range [][]byte{nil, []byte("abc"), sample.Story(40000)} {
			for _, early := range []bool{false, true} {
				b := expect.AfterClose(t, coding.NewEncoder(c, 6), data, early)
				wantEncoded(t, c, 6, b, data)
			}
		}
	}
}

// P15.3: a nil encoder is done. R1: so is one that NewEncoder did not make.
func TestNoEncoder(t *testing.T) {
	expect.NoEncoder(t, (*coding.Encoder)(nil))
	expect.NoEncoder(t, new(coding.Encoder))
}
