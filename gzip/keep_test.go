package gzip_test

import (
	"bytes"
	"fmt"
	"runtime"
	"slices"
	"testing"

	"concertina/api"
	"concertina/gzip"
	"concertina/internal/expect"
	"concertina/internal/sample"
)

// R4: what is written isn't changed, with its spare capacity, and may be changed by
// the caller afterwards; so may the header of New.
func TestEncoderKeepsNoArgument(t *testing.T) {
	data := sample.Story(100000)
	x := flagged(31, "extra", "name", "comment")
	for level := range levels {
		want := encoded(t, level, x.h, data)
		for _, size := range []int{100, 5000, 50000} {
			extra := []byte("extraspare")
			h := x.h
			h.Extra = extra[:5]
			e := newEncoder(t, level, h)
			wantBytes(t, "Extra", extra, []byte("extraspare"))
			spoil(extra)
			expect.Lend(t, data, size, func(part []byte) { write(t, e, part) })
			wantBytes(t, fmt.Sprint("level ", level), closed(t, e), want)
		}
	}
}

// R4: no result is changed by a later call, and no later call by what the caller does
// with a result, also with its spare capacity.
func TestResultsOfTheEncoder(t *testing.T) {
	data := sample.Story(100000)
	x := flagged(31, "extra", "name", "comment")
	for level := range levels {
		all := expect.Apart(t, newEncoder(t, level, x.h), newEncoder(t, level, x.h), data, 20000)
		wantMember(t, fmt.Sprint("level ", level), all, x, data)
	}
}

// R4: what is fed isn't changed, with its spare capacity, and may be changed by the
// caller afterwards.
func TestFeedKeepsNoArgument(t *testing.T) {
	b, want := file(few(), string(sample.Story(30000)), "", string(sample.Noise(3000)), "end")
	for _, size := range []int{1, 10, 1000, len(b)} {
		d := gzip.NewDecoder(far)
		expect.Lend(t, b, size, d.Feed)
		d.End()
		var got result
		got.out, got.err = takeAll(t, d, 999)
		got.headers = d.Headers()
		wantSame(t, fmt.Sprintf("parts of %d bytes", size), got, want)
	}
}

// R4: no result is changed by a later call, and no later call by what the caller does
// with a result, also with its spare capacity.
func TestResultsOfTheDecoder(t *testing.T) {
	b, want := file(few(), string(sample.Story(50000)), string(sample.Noise(50000)), string(make([]byte, 50000)))
	for _, n := range []int{1, 7, 1000, 40000, 100000} {
		d := gzip.NewDecoder(far)
		d.Feed(b)
		d.End()
		var results expect.Results
		for i := 0; i < len(want.out); i += n {
			b, _ := d.Take(n)
			wantBytes(t, fmt.Sprintf("Take(%d)", n), b, want.out[i:min(i+n, len(want.out))])
			if i/n%2 == 0 {
				spoil(b)
			} else {
				results.Add(b)
			}
		}
		wantTake(t, d, n, "", api.ErrDone)
		results.Check(t)
	}
}

// R4: the headers are new memory each time.
func TestResultsOfHeaders(t *testing.T) {
	b, want := file([]known{flagged(4, "extra", "", ""), flagged(6, "other", "", "")}, "a", "b", "c")
	d := gzip.NewDecoder(far)
	d.Feed(b)
	d.Take(far)
	first, second := d.Headers(), d.Headers()
	for _, h := range first[:cap(first)] {
		spoil(h.Extra)
	}
	clear(first[:cap(first)])
	wantHeaders(t, "second result", second, want.headers)
	wantHeaders(t, "third result", d.Headers(), want.headers)
	d.Feed(b)
	d.Take(far)
	wantHeaders(t, "second result, later", second, want.headers)
	wantHeaders(t, "all", d.Headers(), slices.Concat(want.headers, want.headers))
}

// R5: encoders and decoders know nothing of each other, and the same calls have the
// same results.
func TestObjectsAreApart(t *testing.T) {
	kinds := few()[1:3]
	data := [][]byte{sample.Story(40000), sample.Few(40000, 3)}
	for range 2 {
		encoders := []*gzip.Encoder{newEncoder(t, 9, kinds[0].h), newEncoder(t, 1, kinds[1].h)}
		decoders := []*gzip.Decoder{gzip.NewDecoder(far), gzip.NewDecoder(far)}
		var outs [2][]byte
		for at := 0; at < 40000; at += 100 {
			for i, e := range encoders {
				write(t, e, data[i][at:at+100])
				decoders[i].Feed(e.Take())
				b, _ := takeAll(t, decoders[i], 33)
				outs[i] = append(outs[i], b...)
			}
		}
		for i, e := range encoders {
			decoders[i].Feed(closed(t, e))
			decoders[i].End()
			b, err := takeAll(t, decoders[i], 33)
			wantErr(t, "end", err, api.ErrDone)
			wantBytes(t, "output", append(outs[i], b...), data[i])
			wantHeaders(t, "headers", decoders[i].Headers(), []api.Header{kinds[i].h})
		}
	}
}

// memory returns the number of bytes that are in use.
func memory() int {
	var stats runtime.MemStats
	runtime.GC()
	runtime.ReadMemStats(&stats)
	return int(stats.HeapAlloc)
}

// wantLittleMemory compares the bytes that are in use with those of before.
func wantLittleMemory(t *testing.T, what string, before int) {
	t.Helper()
	if used := memory() - before; used > 1<<20 {
		t.Errorf("%s: %d bytes are in use", what, used)
	}
}

// P13.3: neither the input that was read nor the output that was taken is kept.
func TestOldDataAreNotKept(t *testing.T) {
	const total = 1 << 22
	for name, b := range map[string][]byte{"noise": plain(sample.Noise(total)), "zeros": plain(make([]byte, 4*total))} {
		before := memory()
		once, parts := gzip.NewDecoder(far), gzip.NewDecoder(far)
		once.Feed(b)
		once.Take(far)
		for part := range slices.Chunk(b, 1<<12) {
			parts.Feed(part)
			takeAll(t, parts, 1<<16)
		}
		wantLittleMemory(t, name, before)
		for _, d := range []*gzip.Decoder{once, parts} {
			d.End()
			wantTake(t, d, 1, "", api.ErrDone)
		}
		runtime.KeepAlive(b)
	}
}

// P13.3: what is fed behind an error or the end, or stood there before, is not kept.
func TestNothingIsKeptBehindTheEnd(t *testing.T) {
	noise := sample.Noise(1 << 22)
	for what, bad := range map[string][]byte{
		"a wrong byte": append(plain(""), 0),
		"header":       []byte("\x1f\x8b\x08\x20"),
		"stream":       []byte(zeroHeader + "\x07"),
		"sum":          []byte(zeroHeader + "\x03\x00\x01\x00\x00\x00\x00\x00\x00\x00"),
		"limit":        plain("a"),
		"end":          plain(""),
	} {
		before := memory()
		d := gzip.NewDecoder(0)
		d.Feed(bad)
		if what == "end" {
			d.End()
		}
		d.Feed(noise)
		if _, err := d.Take(1); err == api.ErrEnd || err == api.OK {
			t.Fatalf("%s: error %d", what, err)
		}
		wantLittleMemory(t, what+", fed before it was known", before)
		for range 4 {
			d.Feed(noise)
		}
		wantLittleMemory(t, what+", fed behind it", before)
		runtime.KeepAlive(d)
	}
	runtime.KeepAlive(noise)
}

// P13.3: behind a member nothing is kept that only more of its output would need.
func TestLittleIsKeptBehindAMember(t *testing.T) {
	for what, b := range map[string][]byte{"end": plain(sample.Noise(40000)), "error": []byte(zeroHeader + string(sample.Noise(40000)))} {
		before := memory()
		var decoders []*gzip.Decoder
		for range 300 {
			d := gzip.NewDecoder(far)
			d.Feed(b)
			takeAll(t, d, 40001)
			d.End()
			decoders = append(decoders, d)
		}
		wantLittleMemory(t, what, before)
		for _, d := range decoders {
			if _, err := d.Take(1); err == api.ErrEnd {
				t.Fatal("neither an end nor an error")
			}
		}
	}
}

// P13.2: after Close nothing is kept that only more data would need.
func TestLittleIsKeptAfterClose(t *testing.T) {
	before := memory()
	var encoders []*gzip.Encoder
	for range 20 {
		e := newEncoder(t, 9, api.Header{})
		write(t, e, sample.Noise(60000))
		closed(t, e)
		encoders = append(encoders, e)
	}
	wantLittleMemory(t, "encoders", before)
	for _, e := range encoders {
		wantErr(t, "Close", e.Close(), api.ErrDone)
	}
}

// P13.3: a small input has its large output as it is taken, not at once.
func TestOutputIsMadeAsItIsTaken(t *testing.T) {
	b := plain(make([]byte, 1<<24))
	before := memory()
	d := gzip.NewDecoder(far)
	d.Feed(b)
	for range 100 {
		if out, err := d.Take(1000); err != api.OK || !bytes.Equal(out, make([]byte, 1000)) {
			t.Fatalf("%d bytes, error %d", len(out), err)
		}
	}
	wantLittleMemory(t, "at the beginning", before)
	runtime.KeepAlive(d)
	runtime.KeepAlive(b)
}
