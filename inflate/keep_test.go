package inflate_test

import (
	"bytes"
	"fmt"
	"math"
	"runtime"
	"slices"
	"testing"

	"concertina/api"
	"concertina/deflate"
	"concertina/inflate"
	"concertina/internal/expect"
	"concertina/internal/sample"
)

// P12.3: a nil decoder is done, and has nothing.
func TestNilDecoder(t *testing.T) {
	var d *inflate.Decoder
	for _, b := range [][]byte{nil, {3, 0, 1}, sample.Noise(1000)} {
		d.Feed(b)
		for _, n := range []int{-1, 0, 1, 100, math.MinInt, math.MaxInt} {
			b, err := d.Take(n)
			wantErr(t, "Take", err, api.ErrDone)
			if b != nil {
				t.Errorf("Take(%d): %x", n, b)
			}
		}
		if b := d.Rest(); b != nil {
			t.Errorf("Rest: %x", b)
		}
	}
}

// R1: a decoder that New did not make has the limit 0.
func TestZeroDecoder(t *testing.T) {
	d := new(inflate.Decoder)
	wantTake(t, d, 1, "", api.ErrEnd)
	d.Feed([]byte{3, 0, 1})
	wantTake(t, d, 1, "", api.ErrDone)
	wantBytes(t, "rest", d.Rest(), []byte{1})
	d = new(inflate.Decoder)
	d.Feed(packed(last, storedKind, storedText("abc")))
	wantTake(t, d, 1, "", api.ErrCap)
}

// R4: what is fed isn't changed, with its spare capacity, and may be changed by the
// caller afterwards.
func TestFeedKeepsNoArgument(t *testing.T) {
	want := sample.Story(50000)
	b := append(deflate.Whole(want, 6), behind...)
	for _, size := range []int{1, 10, 1000, len(b)} {
		d := inflate.New(far)
		expect.Lend(t, b, size, d.Feed)
		out, err := takeAll(t, d, 999)
		wantErr(t, "Take", err, api.ErrDone)
		wantBytes(t, fmt.Sprintf("parts of %d bytes", size), out, want)
		wantBytes(t, "rest", d.Rest(), []byte(behind))
	}
}

// R4: the argument of Whole stays as it is, and its results are other memory.
func TestWholeKeepsItsArgument(t *testing.T) {
	for _, text := range []string{storedKind + storedText("stored"), fixedKind + literals("fixed") + fixedEnd, reservedKind} {
		b := append(packed(inner, storedKind, storedText("abc"), last, text), behind...)
		want := bytes.Clone(b)
		array := append(b, "spare"...)
		out, rest, err := inflate.Whole(array[:len(b)], far)
		if !bytes.Equal(array[:len(b)], want) || string(array[len(b):]) != "spare" {
			t.Error("the argument was changed")
		}
		spoil(array)
		x := read(want, far)
		if err == api.OK {
			err = api.ErrDone
		}
		wantSame(t, "array changed", result{out, err, rest}, x)
		spoil(out)
		wantBytes(t, "rest, output changed", rest, x.rest)
		spoil(rest)
		wantSame(t, "again", whole(want, far), x)
	}
}

// R4: no result is changed by a later call, and no later call by what the caller
// does with a result, also with its spare capacity.
func TestResultsAreNewMemory(t *testing.T) {
	for name, want := range map[string][]byte{"story": sample.Story(90000), "noise": sample.Noise(90000), "zeros": make([]byte, 90000)} {
		for _, n := range []int{1, 7, 1000, 40000} {
			d := inflate.New(far)
			d.Feed(append(deflate.Whole(want, 6), behind...))
			var results expect.Results
			for i := 0; i < len(want); i += n {
				b, _ := d.Take(n)
				wantBytes(t, fmt.Sprintf("%s, Take(%d)", name, n), b, want[i:min(i+n, len(want))])
				if i/n%2 == 0 {
					spoil(b)
				} else {
					results.Add(b)
				}
			}
			wantTake(t, d, n, "", api.ErrDone)
			rest := d.Rest()
			wantBytes(t, "rest", rest, []byte(behind))
			spoil(rest)
			d.Feed([]byte(behind))
			results.Check(t)
			wantBytes(t, "rest again", d.Rest(), []byte(behind))
		}
	}
}

// R5: decoders know nothing of each other, and the same calls have the same results.
func TestDecodersAreApart(t *testing.T) {
	one, other := sample.Story(60000), sample.Few(60000, 3)
	streams := [][]byte{deflate.Whole(one, 9), deflate.Whole(other, 1)}
	for range 2 {
		decoders := []*inflate.Decoder{inflate.New(far), inflate.New(far)}
		var outs [2][]byte
		for at := 0; at < 60000; at += 100 {
			for i, d := range decoders {
				d.Feed(streams[i][min(at, len(streams[i])):min(at+100, len(streams[i]))])
				b, _ := takeAll(t, d, 33)
				outs[i] = append(outs[i], b...)
			}
		}
		wantBytes(t, "one", outs[0], one)
		wantBytes(t, "other", outs[1], other)
	}
}

// memory returns the number of bytes that are in use.
func memory() int {
	var stats runtime.MemStats
	runtime.GC()
	runtime.ReadMemStats(&stats)
	return int(stats.HeapAlloc)
}

// wantLittleMemory compares the bytes that are in use with those of before.
func wantLittleMemory(t *testing.T, what string, before int) {
	t.Helper()
	if used := memory() - before; used > 1<<20 {
		t.Errorf("%s: %d bytes are in use", what, used)
	}
}

// P12.1: neither the input that was read nor the output that was taken is kept.
func TestOldDataAreNotKept(t *testing.T) {
	const total = 1 << 22
	for name, b := range map[string][]byte{"noise": deflate.Whole(sample.Noise(total), 6), "zeros": deflate.Whole(make([]byte, 4*total), 6)} {
		before := memory()
		once, parts := inflate.New(far), inflate.New(far)
		once.Feed(b)
		once.Take(len(b) * 2000) // all of it
		for part := range slices.Chunk(b, 1<<12) {
			parts.Feed(part)
			takeAll(t, parts, 1<<16)
		}
		wantLittleMemory(t, name, before)
		wantTake(t, once, 1, "", api.ErrDone)
		wantTake(t, parts, 1, "", api.ErrDone)
		runtime.KeepAlive(b)
	}
}

// P12.1: what is fed behind an error, or stood there before, is not kept.
func TestNothingIsKeptBehindAnError(t *testing.T) {
	noise := sample.Noise(1 << 22)
	for _, bad := range [][]byte{packed(last, reservedKind), packed(last, fixedKind, fixedMatch(3, 1)), packed(last, fixedKind, literals("a"))} {
		before := memory()
		d := inflate.New(0)
		d.Feed(bad)
		d.Feed(noise)
		if _, err := d.Take(1); err == api.ErrEnd || err == api.OK {
			t.Fatalf("error %d", err)
		}
		wantLittleMemory(t, "fed before the error was known", before)
		for range 4 {
			d.Feed(noise)
		}
		wantLittleMemory(t, "fed behind the error", before)
		runtime.KeepAlive(d)
	}
	runtime.KeepAlive(noise)
}

// P12.1: behind the end and behind an error nothing is kept that only more output
// would need.
func TestLittleIsKeptAtTheEnd(t *testing.T) {
	lits := lengthsOf(286, 256, 2, 285, 2)
	for i := range 128 {
		lits[i] = 8
	}
	full := inner + storedKind + storedText(sample.Noise(40000)) + inner + fixedKind + fixedEnd + last + dynamicKind + head(lits, same(16, 4))
	for what, b := range map[string][]byte{"end": packed(full, coded(lits, 256)), "error": packed(full, coded(lits, 3, 3))} {
		before := memory()
		var decoders []*inflate.Decoder
		for range 300 {
			d := inflate.New(40001)
			d.Feed(b)
			takeAll(t, d, 40001)
			decoders = append(decoders, d)
		}
		wantLittleMemory(t, what, before)
		for _, d := range decoders {
			if _, err := d.Take(1); err == api.ErrEnd {
				t.Fatal("neither an end nor an error")
			}
		}
	}
}

// P12.1: a small input has its large output as it is taken, not at once.
func TestOutputIsMadeAsItIsTaken(t *testing.T) {
	b := deflate.Whole(make([]byte, 1<<24), 6)
	before := memory()
	d := inflate.New(far)
	d.Feed(b)
	for range 100 {
		if out, err := d.Take(1000); err != api.OK || !bytes.Equal(out, make([]byte, 1000)) {
			t.Fatalf("%d bytes, error %d", len(out), err)
		}
	}
	wantLittleMemory(t, "at the beginning", before)
	runtime.KeepAlive(d)
	runtime.KeepAlive(b)
}
