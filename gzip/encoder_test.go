package gzip_test

import (
	"bytes"
	stdgzip "compress/gzip"
	"fmt"
	"io"
	"math"
	"math/rand"
	"slices"
	"strings"
	"testing"

	"concertina/api"
	"concertina/deflate"
	"concertina/gzip"
	"concertina/inflate"
	"concertina/internal/expect"
	"concertina/internal/sample"
)

// newEncoder returns an encoder of a header that may be.
func newEncoder(t *testing.T, level int, h api.Header) *gzip.Encoder {
	t.Helper()
	e, err := gzip.New(level, h)
	wantErr(t, "New", err, api.OK)
	return e
}

// encoded returns the member with these data.
func encoded(t *testing.T, level int, h api.Header, b []byte) []byte {
	t.Helper()
	e := newEncoder(t, level, h)
	write(t, e, b)
	return closed(t, e)
}

// wantMember looks whether bytes are a member with this header and these data: a
// header, a stream, the checksum and the length, and nothing else.
func wantMember(t *testing.T, what string, b []byte, x known, data []byte) {
	t.Helper()
	if !strings.HasPrefix(string(b), x.b) {
		t.Fatalf("%s: begins with %q instead of %q", what, short(b), short([]byte(x.b)))
	}
	out, rest, err := inflate.Whole(b[len(x.b):], far)
	wantErr(t, what, err, api.OK)
	wantBytes(t, what, out, data)
	wantBytes(t, what+", behind the stream", rest, []byte(totals(data)))
}

// wantMemberOfLibrary looks whether the library reads a member with this header,
// whose texts are short ones of ASCII, and these data.
func wantMemberOfLibrary(t *testing.T, what string, b []byte, h api.Header, data []byte) {
	t.Helper()
	source := bytes.NewReader(b)
	r, err := stdgzip.NewReader(source)
	if err != nil {
		t.Fatalf("%s: %v", what, err)
	}
	r.Multistream(false)
	out, err := io.ReadAll(r)
	if err != nil || source.Len() > 0 {
		t.Errorf("%s: %v, %d bytes behind", what, err, source.Len())
	}
	wantBytes(t, what, out, data)
	wantBytes(t, what+", Extra", r.Extra, h.Extra)
	unix := max(r.ModTime.Unix(), 0) // without a time it is far below
	if r.Name != h.Name || r.Comment != h.Comment || r.OS != h.System || unix != int64(h.Time) {
		t.Errorf("%s: header %+v", what, r.Header)
	}
}

// P13.2: the output is one member with the written data, at every level.
func TestEncoder(t *testing.T) {
	kinds := few()
	for name, data := range sample.Inputs() {
		t.Run(name, func(t *testing.T) {
			t.Parallel()
			for level := range levels {
				x := kinds[level%len(kinds)]
				b := encoded(t, level, x.h, data)
				what := fmt.Sprint("level ", level)
				wantMember(t, what, b, x, data)
				wantMemberOfLibrary(t, what, b, x.h, data)
			}
		})
	}
}

// P13.2: the member has the header of New, of every kind.
func TestEncoderHeaders(t *testing.T) {
	for _, x := range headers() {
		for _, data := range []string{"", "data"} {
			wantMember(t, x.name, encoded(t, 6, x.h, []byte(data)), x, []byte(data))
		}
	}
}

// P13.2: with a header that may not be, New returns the error of PrintHeader, and
// no encoder.
func TestNewErrors(t *testing.T) {
	for what, h := range badHeaders() {
		for _, level := range []int{-1, 0, 6, 9, 10} {
			e, err := gzip.New(level, h)
			wantErr(t, what, err, api.ErrForm)
			if e != nil {
				t.Errorf("%s: an encoder beside an error", what)
			}
		}
	}
}

// P13.2: the stream of a member is as chapter 11 has it: from level 1 on
// compressed, and never much longer than the data.
func TestEncoderSizes(t *testing.T) {
	for _, n := range []int{0, 1, 300, 3000, 16384, 16385, 100000} {
		for level := range levels {
			most := n + 6*((n+16383)/16384) + 6 + len(zeroHeader) + 8
			for name, data := range map[string][]byte{"noise": sample.Noise(n), "zeros": make([]byte, n)} {
				if b := encoded(t, level, api.Header{}, data); len(b) > most {
					t.Errorf("level %d: %d bytes of %s become %d", level, n, name, len(b))
				}
			}
			if b := encoded(t, level, api.Header{}, make([]byte, n)); level > 0 && n >= 3000 && len(b)-18 >= n/4 {
				t.Errorf("level %d: %d zeros become %d bytes", level, n, len(b))
			}
		}
	}
}

// P13.2: the levels are those of chapter 11: other ones count as the nearest one.
func TestEncoderLevels(t *testing.T) {
	b := sample.Story(60000)
	for level := range levels {
		member := zeroHeader + string(deflate.Whole(b, level)) + totals(b)
		wantBytes(t, fmt.Sprint("level ", level), encoded(t, level, api.Header{}, b), []byte(member))
	}
	for _, level := range []int{-1, -2, -256, math.MinInt} {
		wantBytes(t, fmt.Sprint("level ", level), encoded(t, level, api.Header{}, b), encoded(t, 0, api.Header{}, b))
	}
	for _, level := range []int{10, 11, 256, math.MaxInt} {
		wantBytes(t, fmt.Sprint("level ", level), encoded(t, level, api.Header{}, b), encoded(t, 9, api.Header{}, b))
	}
	zero, one, nine := encoded(t, 0, api.Header{}, b), encoded(t, 1, api.Header{}, b), encoded(t, 9, api.Header{}, b)
	if len(nine) >= len(one) || len(one) >= len(zero) {
		t.Errorf("level 0 has %d bytes, level 1 %d, level 9 %d", len(zero), len(one), len(nine))
	}
}

// P13.2: neither how the data are divided among Writes nor when Take is called
// changes the member.
func TestEncoderInParts(t *testing.T) {
	random := rand.New(rand.NewSource(1))
	x := flagged(31, "extra", "name", "comment")
	for name, data := range map[string][]byte{"nothing": nil, "one": []byte("a"), "story": sample.Story(70000), "noise": sample.Noise(40000)} {
		for level := range levels {
			want := encoded(t, level, x.h, data)
			for _, most := range []int{300, 5000, 60000} {
				size := func() int { return random.Intn(most) }
				times := func() int { return random.Intn(3) }
				b := expect.Encode(t, newEncoder(t, level, x.h), data, size, times)
				wantBytes(t, fmt.Sprintf("%s, level %d, parts below %d bytes", name, level, most), b, want)
			}
		}
	}
}

// P13.2: each byte is written and taken alone.
func TestEncoderByteByByte(t *testing.T) {
	data := sample.Story(20000)
	for _, level := range []int{0, 1, 6} {
		b := expect.Encode(t, newEncoder(t, level, api.Header{Sum: true}), data, always(1), always(1))
		wantBytes(t, fmt.Sprint("level ", level), b, encoded(t, level, api.Header{Sum: true}, data))
	}
}

// P13.2: Write of nothing changes nothing.
func TestWriteOfNothing(t *testing.T) {
	e := newEncoder(t, 6, api.Header{})
	write(t, e, nil)
	write(t, e, []byte("abc"))
	write(t, e, []byte{})
	write(t, e, []byte("def"))
	write(t, e, nil)
	wantBytes(t, "member", closed(t, e), encoded(t, 6, api.Header{}, []byte("abcdef")))
}

// P13.2: Take removes what it returns. Before Close it does not return the end of
// the member, and after Close all that remains.
func TestEncoderTake(t *testing.T) {
	x := flagged(31, "extra", "name", "comment")
	data := sample.Story(90000)
	for level := range levels {
		e := newEncoder(t, level, x.h)
		all := e.Take()
		wantBytes(t, "taken again", e.Take(), nil)
		for part := range slices.Chunk(data, 30000) {
			write(t, e, part)
			all = append(all, e.Take()...)
			wantBytes(t, "taken again", e.Take(), nil)
		}
		stream := deflate.Whole(data, level)
		if most := len(x.b) + len(stream); len(all) > most {
			t.Errorf("level %d: %d bytes before Close, with a stream of %d", level, len(all), len(stream))
		}
		if level == 0 && len(all) < len(x.b)+60000 {
			t.Errorf("of 90000 bytes %d are there", len(all))
		}
		all = append(all, closed(t, e)...)
		wantBytes(t, "taken again", e.Take(), nil)
		wantMember(t, fmt.Sprint("level ", level), all, x, data)
	}
}

// P13.2: after Close there is nothing more to write or to close; what was not taken
// yet stays, and nothing comes to it.
func TestAfterClose(t *testing.T) {
	h := api.Header{Sum: true}
	for _, data := range [][]byte{nil, []byte("abc"), sample.Story(40000)} {
		for level := range levels {
			for _, early := range []bool{false, true} {
				all := expect.AfterClose(t, newEncoder(t, level, h), data, early)
				wantBytes(t, "member", all, encoded(t, level, h, data))
			}
		}
	}
}

// P13.3: a nil encoder is done. R1: so is one that New did not make.
func TestNoEncoder(t *testing.T) {
	expect.NoEncoder(t, (*gzip.Encoder)(nil))
	expect.NoEncoder(t, new(gzip.Encoder))
}
