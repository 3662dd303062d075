package gzip_test

import (
	"bytes"
	stdgzip "compress/gzip"
	"fmt"
	"math"
	"slices"
	"testing"
	"time"

	"concertina/api"
	"concertina/gzip"
	"concertina/internal/sample"
)

// wantFile compares what a file comes to, which is complete. One that is cut off has
// the beginning of its output, and an end only behind a member.
func wantFile(t *testing.T, what string, b []byte, want result, ends ...int) {
	t.Helper()
	wantResult(t, what, b, far, want)
	for i := range prefixes(b) {
		for _, end := range []bool{false, true} {
			x := whole(b[:i], far, end)
			wantErrno := api.ErrEnd
			if end && slices.Contains(ends, i) {
				wantErrno = api.ErrDone
			}
			wantErr(t, fmt.Sprintf("%s, %d of %d bytes", what, i, len(b)), x.err, wantErrno)
			if !bytes.HasPrefix(want.out, x.out) || len(x.headers) > len(want.headers) {
				t.Errorf("%s, %d of %d bytes: %d bytes %q, %d headers", what, i, len(b), len(x.out), short(x.out), len(x.headers))
			}
		}
	}
}

// P13.3, example 1: two members: the data of both, one after the other.
func TestTwoMembers(t *testing.T) {
	one := plain("one, ")
	b, x := file(headers()[:1], "one, ", "two")
	wantBytes(t, "output", x.out, []byte("one, two"))
	wantFile(t, "two members", b, x, len(one))
}

// P13.3: a member with a header of every kind.
func TestEachHeader(t *testing.T) {
	t.Parallel()
	for _, x := range headers() {
		for _, data := range []string{"", "data"} {
			want := result{[]byte(data), api.ErrDone, []api.Header{x.h}}
			wantFile(t, x.name, []byte(member(x.b, data)), want)
		}
	}
}

// P13.3: a file with a member of each kind of header.
func TestAllHeaders(t *testing.T) {
	kinds := headers()
	data := make([]string, len(kinds))
	for i := range data {
		data[i] = fmt.Sprint("data ", i, ", ")
	}
	b, want := file(kinds, data...)
	if len(want.headers) != len(kinds) {
		t.Fatal("not all headers are there")
	}
	wantSame(t, "whole", whole(b, far, true), want)
	wantSame(t, "in parts", inParts(t, b, far, always(1000), 7, true), want)
}

// P13.3: members with data and without, in any order.
func TestMembersWithoutData(t *testing.T) {
	t.Parallel()
	texts := []string{"", "a", "some data"}
	for i := range 81 {
		data := []string{texts[i%3], texts[i/3%3], texts[i/9%3], texts[i/27]}
		for n := 1; n <= 4; n++ {
			b, want := file(few(), data[:n]...)
			what := fmt.Sprintf("%q", data[:n])
			wantSame(t, what, whole(b, far, true), want)
			wantSame(t, what+", byte by byte", inParts(t, b, far, always(1), 1, false), want)
			wantSame(t, what+", in parts", inParts(t, b, far, always(50), everything, true), want)
		}
	}
}

// P13.3: no file is complete without any member, also if its end is marked.
func TestNoMember(t *testing.T) {
	for _, most := range []int{-1, 0, 100} {
		d := gzip.NewDecoder(most)
		for range 2 {
			for _, n := range []int{1, 2, 100, math.MaxInt} {
				wantTake(t, d, n, "", api.ErrEnd)
			}
			for _, n := range []int{0, -1, -100, math.MinInt} {
				wantTake(t, d, n, "", api.OK)
			}
			d.Feed(nil)
			d.Feed([]byte{})
			wantHeaders(t, "no member", d.Headers(), nil)
		}
		d.End()
		for range 2 {
			wantStays(t, d, api.ErrEnd)
			d.Feed(plain("abc"))
			d.End()
			wantHeaders(t, "no member", d.Headers(), nil)
		}
	}
}

// P13.3: OK with as many bytes as asked for, also from several members; ErrEnd with
// fewer, and without any if more input or the end is needed; ErrDone at the end.
func TestTake(t *testing.T) {
	b := slices.Concat(plain("abc"), plain(""), plain("defghi"), plain("jkl"))
	d := gzip.NewDecoder(far)
	d.Feed(b)
	wantTake(t, d, 2, "ab", api.OK)
	wantTake(t, d, 0, "", api.OK)
	wantTake(t, d, -5, "", api.OK)
	wantTake(t, d, 2, "cd", api.OK)
	wantTake(t, d, 5, "efghi", api.OK)
	wantTake(t, d, 9, "jkl", api.ErrEnd)
	wantTake(t, d, 9, "", api.ErrEnd)
	wantTake(t, d, 1, "", api.ErrEnd)
	d.Feed(b)
	wantTake(t, d, 4, "abcd", api.OK)
	d.End()
	wantTake(t, d, 4, "efgh", api.OK)
	wantTake(t, d, 4, "ijkl", api.OK)
	for range 3 {
		wantStays(t, d, api.ErrDone)
	}
}

// P13.3: all data at once, and one more byte than there are.
func TestTakeOfAll(t *testing.T) {
	for _, end := range []bool{false, true} {
		for _, n := range []int{6, 7, 100, math.MaxInt} {
			d := gzip.NewDecoder(6)
			d.Feed(slices.Concat(plain("abc"), plain("def"), plain("")))
			if end {
				d.End()
			}
			if n == 6 {
				wantTake(t, d, n, "abcdef", api.OK)
			} else {
				wantTake(t, d, n, "abcdef", api.ErrEnd)
			}
			if end {
				wantStays(t, d, api.ErrDone)
			} else {
				wantStays(t, d, api.ErrEnd)
			}
		}
	}
}

// P13.3: between two members, and behind the last one, more input or the end is
// needed.
func TestBetweenMembers(t *testing.T) {
	d := gzip.NewDecoder(far)
	for i, data := range []string{"one", "", "two", "", "", "three"} {
		d.Feed(plain(data))
		if data != "" {
			wantTake(t, d, 100, data, api.ErrEnd)
		}
		wantStays(t, d, api.ErrEnd)
		d.Feed(nil)
		wantStays(t, d, api.ErrEnd)
		if n := len(d.Headers()); n != i+1 {
			t.Errorf("%d headers of %d", n, i+1)
		}
	}
	d.End()
	wantStays(t, d, api.ErrDone)
}

// P13.3: End may be called with the last byte, behind it, and when all was taken.
func TestEnd(t *testing.T) {
	for _, b := range [][]byte{plain(""), plain("abc"), slices.Concat(plain("abc"), plain("")), slices.Concat(plain(""), plain("abc"))} {
		for taken := range 3 {
			d := gzip.NewDecoder(far)
			d.Feed(b)
			var out []byte
			if taken > 0 {
				out, _ = d.Take(2)
			}
			if taken > 1 {
				more, err := takeAll(t, d, 10)
				out = append(out, more...)
				wantErr(t, "before End", err, api.ErrEnd)
			}
			d.End()
			d.End()
			more, err := takeAll(t, d, 10)
			wantErr(t, "behind End", err, api.ErrDone)
			wantBytes(t, "output", append(out, more...), read(b, far, true).out)
		}
	}
}

// P13.3: with an end before that of a member, all data that can be known come first,
// then an error that stays. What is fed behind the end is ignored.
func TestEndWithinAMember(t *testing.T) {
	t.Parallel()
	b, x := file(few(), "first", "second", "", "and third")
	ends := map[int]bool{}
	for n := range x.headers {
		data := []string{"first", "second", "", "and third"}[:n]
		before, _ := file(few(), data...)
		ends[len(before)] = n > 0
	}
	for i := range len(b) + 1 {
		want := api.ErrEnd
		if ends[i] || i == len(b) {
			want = api.ErrDone
		}
		d := gzip.NewDecoder(far)
		d.Feed(b[:i])
		d.End()
		for range 2 {
			d.Feed(b[i:])
			out, err := takeAll(t, d, 2)
			wantErr(t, fmt.Sprint(i, " bytes"), err, want)
			if len(out) > 0 && !bytes.HasPrefix(x.out, out) {
				t.Errorf("%d bytes: %q", i, out)
			}
			wantStays(t, d, want)
			d.End()
		}
		wantHeaders(t, fmt.Sprint(i, " bytes"), d.Headers(), read(b[:i], far, true).headers)
	}
}

// P13.3: what is fed behind the end is ignored, also where it would be wrong, and
// before anything was taken.
func TestFedBehindEnd(t *testing.T) {
	for _, more := range [][]byte{{0}, []byte("more"), plain("more"), {31}} {
		d := gzip.NewDecoder(far)
		d.Feed(plain("abc"))
		d.End()
		d.Feed(more)
		wantTake(t, d, 2, "ab", api.OK)
		d.Feed(more)
		wantTake(t, d, 2, "c", api.ErrEnd)
		d.Feed(more)
		wantStays(t, d, api.ErrDone)
		d.Feed(more)
		wantStays(t, d, api.ErrDone)
		if n := len(d.Headers()); n != 1 {
			t.Errorf("%d headers", n)
		}
	}
}

// P13.3: the data of what P13.2 makes, at every level.
func TestFilesOfTheEncoder(t *testing.T) {
	kinds := few()
	for name, data := range sample.Inputs() {
		t.Run(name, func(t *testing.T) {
			t.Parallel()
			var b []byte
			want := result{err: api.ErrDone}
			for level := range levels {
				x := kinds[level%len(kinds)]
				b = append(b, encoded(t, level, x.h, data)...)
				want.out = append(want.out, data...)
				want.headers = append(want.headers, x.h)
			}
			wantSame(t, "whole", whole(b, len(want.out), true), want)
			wantSame(t, "in parts", inParts(t, b, len(want.out), always(20000), 5000, true), want)
		})
	}
}

// libraryMember returns a member of the library.
func libraryMember(t *testing.T, level int, h api.Header, data []byte) []byte {
	t.Helper()
	var b bytes.Buffer
	w, err := stdgzip.NewWriterLevel(&b, level)
	if err != nil {
		t.Fatal(err)
	}
	w.Name, w.Comment, w.Extra, w.OS = h.Name, h.Comment, h.Extra, h.System
	if h.Time > 0 {
		w.ModTime = time.Unix(int64(h.Time), 0)
	}
	w.Write(data)
	w.Close()
	return b.Bytes()
}

// P13.3: the data of what another encoder makes.
func TestFilesOfTheLibrary(t *testing.T) {
	t.Parallel()
	kinds := []api.Header{
		{System: 3},
		{System: 255, HasName: true, Name: "name", Time: 5},
		{HasExtra: true, Extra: []byte("extra"), HasName: true, Name: "name", HasNote: true, Comment: "comment", Time: 1 << 30},
	}
	for name, data := range sample.Inputs() {
		var b []byte
		want := result{err: api.ErrDone}
		for level := stdgzip.HuffmanOnly; level <= 9; level++ {
			h := kinds[(level+2)%len(kinds)]
			b = append(b, libraryMember(t, level, h, data)...)
			switch level {
			case 1:
				h.Flags = 4 // fastest
			case 9:
				h.Flags = 2 // slowest
			}
			want.out = append(want.out, data...)
			want.headers = append(want.headers, h)
		}
		wantSame(t, name, whole(b, far, true), want)
	}
}

// P13.3: a file of very many members.
func TestManyMembers(t *testing.T) {
	t.Parallel()
	var b []byte
	var want []byte
	for i := range 20000 {
		data := fmt.Sprint(i)[:i%4%len(fmt.Sprint(i))]
		b = append(b, plain(data)...)
		want = append(want, data...)
	}
	x := whole(b, far, true)
	wantErr(t, "end", x.err, api.ErrDone)
	wantBytes(t, "output", x.out, want)
	if len(x.headers) != 20000 {
		t.Errorf("%d headers", len(x.headers))
	}
}

// P13.3: a nil decoder is done, and has nothing.
func TestNilDecoder(t *testing.T) {
	var d *gzip.Decoder
	for range 2 {
		d.Feed(plain("abc"))
		d.Feed(nil)
		for _, n := range []int{-1, 0, 1, 100, math.MinInt, math.MaxInt} {
			wantTake(t, d, n, "", api.ErrDone)
		}
		if list := d.Headers(); list != nil {
			t.Errorf("%d headers", len(list))
		}
		d.End()
	}
}

// R1: a decoder that NewDecoder did not make has the limit 0.
func TestZeroDecoder(t *testing.T) {
	d := new(gzip.Decoder)
	wantStays(t, d, api.ErrEnd)
	d.Feed(plain(""))
	wantStays(t, d, api.ErrEnd)
	d.End()
	wantStays(t, d, api.ErrDone)
	d = new(gzip.Decoder)
	d.Feed(plain("abc"))
	wantStays(t, d, api.ErrCap)
}
