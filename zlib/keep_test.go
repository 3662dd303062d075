package zlib_test

import (
	"bytes"
	"fmt"
	"runtime"
	"slices"
	"testing"

	"concertina/api"
	"concertina/internal/expect"
	"concertina/internal/sample"
	"concertina/zlib"
)

// R4: what is written isn't changed, with its spare capacity, and may be changed by
// the caller afterwards.
func TestEncoderKeepsNoArgument(t *testing.T) {
	data := sample.Story(100000)
	for level := range levels {
		want := encoded(t, level, data)
		for _, size := range []int{100, 5000, 50000} {
			e := zlib.New(level)
			expect.Lend(t, data, size, func(part []byte) { write(t, e, part) })
			wantBytes(t, fmt.Sprint("level ", level), closed(t, e), want)
		}
	}
}

// R4: no result is changed by a later call, and no later call by what the caller does
// with a result, also with its spare capacity.
func TestResultsOfTheEncoder(t *testing.T) {
	data := sample.Story(100000)
	for level := range levels {
		all := expect.Apart(t, zlib.New(level), zlib.New(level), data, 20000)
		wantEncoded(t, fmt.Sprint("level ", level), all, data)
		// The first bytes of the next encoder are other memory.
		wantEncoded(t, "next encoder", encoded(t, level, data), data)
	}
}

// R4: what is fed isn't changed, with its spare capacity, and may be changed by the
// caller afterwards.
func TestFeedKeepsNoArgument(t *testing.T) {
	data := slices.Concat(sample.Story(30000), sample.Noise(3000))
	b := file(data)
	for _, size := range []int{1, 3, 10, 1000, len(b)} {
		for _, soon := range []bool{false, true} {
			d := zlib.NewDecoder(far)
			var got result
			expect.Lend(t, b, size, func(part []byte) {
				d.Feed(part)
				if soon {
					out, _ := takeAll(t, d, 999)
					got.out = append(got.out, out...)
				}
			})
			d.End()
			out, err := takeAll(t, d, 999)
			got = result{append(got.out, out...), err}
			wantSame(t, fmt.Sprintf("parts of %d bytes", size), got, result{data, api.ErrDone})
		}
	}
}

// R4: no result is changed by a later call, and no later call by what the caller does
// with a result, also with its spare capacity.
func TestResultsOfTheDecoder(t *testing.T) {
	data := slices.Concat(sample.Story(50000), sample.Noise(50000), make([]byte, 50000))
	b := file(data)
	for _, n := range []int{1, 7, 1000, 40000, 100000} {
		d := zlib.NewDecoder(far)
		d.Feed(b)
		d.End()
		var results expect.Results
		for i := 0; i < len(data); i += n {
			b, _ := d.Take(n)
			wantBytes(t, fmt.Sprintf("Take(%d)", n), b, data[i:min(i+n, len(data))])
			if i/n%2 == 0 {
				spoil(b)
			} else {
				results.Add(b)
			}
		}
		wantTake(t, d, n, "", api.ErrDone)
		results.Check(t)
	}
}

// R5: encoders and decoders know nothing of each other, and the same calls have the
// same results.
func TestObjectsAreApart(t *testing.T) {
	data := [][]byte{sample.Story(40000), sample.Few(40000, 3)}
	var files [2][]byte
	for round := range 2 {
		encoders := []*zlib.Encoder{zlib.New(9), zlib.New(1)}
		decoders := []*zlib.Decoder{zlib.NewDecoder(far), zlib.NewDecoder(far)}
		var outs, all [2][]byte
		pass := func(i int) {
			b := encoders[i].Take()
			all[i] = append(all[i], b...)
			decoders[i].Feed(b)
			out, _ := takeAll(t, decoders[i], 33)
			outs[i] = append(outs[i], out...)
		}
		for at := 0; at < 40000; at += 100 {
			for i, e := range encoders {
				write(t, e, data[i][at:at+100])
				pass(i)
			}
		}
		for i, e := range encoders {
			wantErr(t, "Close", e.Close(), api.OK)
			pass(i)
			decoders[i].End()
			wantTake(t, decoders[i], 33, "", api.ErrDone)
			wantBytes(t, "output", outs[i], data[i])
			if round > 0 {
				wantBytes(t, "file", all[i], files[i])
			}
		}
		files = all
	}
}

// memory returns the number of bytes that are in use.
func memory() int {
	var stats runtime.MemStats
	runtime.GC()
	runtime.ReadMemStats(&stats)
	return int(stats.HeapAlloc)
}

// wantLittleMemory compares the bytes that are in use with those of before.
func wantLittleMemory(t *testing.T, what string, before int) {
	t.Helper()
	if used := memory() - before; used > 1<<20 {
		t.Errorf("%s: %d bytes are in use", what, used)
	}
}

// P14.2: neither the input that was read nor the output that was taken is kept.
func TestOldDataAreNotKept(t *testing.T) {
	const total = 1 << 22
	for name, b := range map[string][]byte{"noise": file(sample.Noise(total)), "zeros": file(make([]byte, 4*total))} {
		before := memory()
		once, parts := zlib.NewDecoder(far), zlib.NewDecoder(far)
		once.Feed(b)
		once.Take(far)
		for part := range slices.Chunk(b, 1<<12) {
			parts.Feed(part)
			takeAll(t, parts, 1<<16)
		}
		wantLittleMemory(t, name, before)
		for _, d := range []*zlib.Decoder{once, parts} {
			d.End()
			wantTake(t, d, 1, "", api.ErrDone)
		}
		runtime.KeepAlive(b)
	}
}

// P14.2: nor is it within the file, where more of both is to come.
func TestOldDataAreNotKeptWithinAFile(t *testing.T) {
	const total = 1 << 22
	for name, b := range map[string][]byte{"noise": file(sample.Noise(total)), "zeros": file(make([]byte, 4*total))} {
		b = b[:len(b)-10]
		for _, size := range []int{1 << 12, len(b)} {
			before := memory()
			d := zlib.NewDecoder(far)
			for part := range slices.Chunk(b, size) {
				d.Feed(part)
				takeAll(t, d, 1<<16)
			}
			wantStays(t, d, api.ErrEnd)
			wantLittleMemory(t, fmt.Sprintf("%s, parts of %d bytes", name, size), before)
			runtime.KeepAlive(d)
		}
		runtime.KeepAlive(b)
	}
}

// P14.2: what is fed behind an error or the end, or stood there before, is not kept;
// behind an error of the first two bytes or of bytes behind the file, even before it
// is told.
func TestNothingIsKeptBehindTheEnd(t *testing.T) {
	noise := sample.Noise(1 << 22)
	for what, bad := range map[string][]byte{
		"first byte":  {0},
		"second byte": {0x78, 0},
		"stream":      []byte(begin + "\x07"),
		"sum":         []byte("\x78\x9c\x03\x00\x00\x00\x00\x00"),
		"byte behind": file(""),
		"limit":       file("a"),
		"end":         file(""),
	} {
		before := memory()
		d := zlib.NewDecoder(0)
		d.Feed(bad)
		switch what {
		case "end":
			d.End()
		case "byte behind":
			wantTake(t, d, 1, "", api.ErrEnd)
		}
		d.Feed(noise)
		switch what {
		case "first byte", "second byte", "byte behind", "end":
			wantLittleMemory(t, what+", before it was told", before)
		}
		if _, err := d.Take(1); err == api.ErrEnd || err == api.OK {
			t.Fatalf("%s: error %d", what, err)
		}
		wantLittleMemory(t, what+", fed before it was known", before)
		for range 4 {
			d.Feed(noise)
		}
		wantLittleMemory(t, what+", fed behind it", before)
		runtime.KeepAlive(d)
	}
	runtime.KeepAlive(noise)
}

// P14.2: behind the file nothing is kept that only more of its output would need.
func TestLittleIsKeptBehindTheFile(t *testing.T) {
	noise := sample.Noise(40000)
	for what, b := range map[string][]byte{"end": file(noise), "error": []byte(begin + string(noise)), "sum": append(file(noise)[:40000], noise...)} {
		before := memory()
		var decoders []*zlib.Decoder
		for range 300 {
			d := zlib.NewDecoder(far)
			d.Feed(b)
			takeAll(t, d, 40001)
			d.End()
			decoders = append(decoders, d)
		}
		wantLittleMemory(t, what, before)
		for _, d := range decoders {
			if _, err := d.Take(1); err == api.ErrEnd {
				t.Fatal("neither an end nor an error")
			}
		}
	}
}

// P14.1: after Close nothing is kept that only more data would need.
func TestLittleIsKeptAfterClose(t *testing.T) {
	before := memory()
	var encoders []*zlib.Encoder
	for range 20 {
		e := zlib.New(9)
		write(t, e, sample.Noise(60000))
		closed(t, e)
		encoders = append(encoders, e)
	}
	wantLittleMemory(t, "encoders", before)
	for _, e := range encoders {
		wantErr(t, "Close", e.Close(), api.ErrDone)
	}
}

// P14.2: a small input has its large output as it is taken, not at once.
func TestOutputIsMadeAsItIsTaken(t *testing.T) {
	b := file(make([]byte, 1<<24))
	before := memory()
	d := zlib.NewDecoder(far)
	d.Feed(b)
	for range 100 {
		if out, err := d.Take(1000); err != api.OK || !bytes.Equal(out, make([]byte, 1000)) {
			t.Fatalf("%d bytes, error %d", len(out), err)
		}
	}
	wantLittleMemory(t, "at the beginning", before)
	runtime.KeepAlive(d)
	runtime.KeepAlive(b)
}
