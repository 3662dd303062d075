package deflate_test

import (
	"bytes"
	"fmt"
	"runtime"
	"slices"
	"testing"

	"concertina/api"
	"concertina/deflate"
	"concertina/internal/expect"
	"concertina/internal/sample"
)

// P11.3: a nil encoder is done.
func TestNilEncoder(t *testing.T) {
	var e *deflate.Encoder
	for _, b := range [][]byte{nil, []byte("abc"), sample.Noise(100000)} {
		wantErr(t, "Write", e.Write(b), api.ErrDone)
		wantErr(t, "Flush", e.Flush(), api.ErrDone)
		wantErr(t, "Close", e.Close(), api.ErrDone)
		if out := e.Take(); out != nil {
			t.Errorf("Take: %x", out)
		}
	}
}

// R1: an encoder that New did not make is one of level 0.
func TestZeroEncoder(t *testing.T) {
	b := sample.Story(40000)
	e := new(deflate.Encoder)
	wantBytes(t, "new", e.Take(), nil)
	write(t, e, b)
	wantBytes(t, "closed", closed(t, e), deflate.Whole(b, 0))
	wantErr(t, "Close", e.Close(), api.ErrDone)
	e = new(deflate.Encoder)
	wantBytes(t, "flushed", flushed(t, e), []byte(emptyBlock))
}

// R4: what is written isn't changed, with its spare capacity, and may be changed
// by the caller afterwards.
func TestWriteKeepsNoArgument(t *testing.T) {
	t.Parallel()
	b := sample.Story(100000)
	for level := range levels {
		for _, size := range []int{5000, 50000} {
			e := deflate.New(level)
			expect.Lend(t, b, size, func(part []byte) { write(t, e, part) })
			wantBytes(t, fmt.Sprint("level ", level), closed(t, e), deflate.Whole(b, level))
		}
	}
}

// R4: the argument of Whole stays as it is as well.
func TestWholeKeepsItsArgument(t *testing.T) {
	for level := range levels {
		for _, n := range []int{0, 1000, 40000} {
			array := append(sample.Story(n), "spare"...)
			out := deflate.Whole(array[:n], level)
			if !bytes.Equal(array[:n], sample.Story(n)) || string(array[n:]) != "spare" {
				t.Errorf("level %d: the argument was changed", level)
			}
			clear(array)
			wantData(t, fmt.Sprint("level ", level), out, sample.Story(n))
			spoil(out)
			wantData(t, fmt.Sprint("level ", level), deflate.Whole(sample.Story(n), level), sample.Story(n))
		}
	}
}

// R4: no result is changed by a later call, and no later call is changed by what
// the caller does with a result, also with its spare capacity.
func TestResultsAreNewMemory(t *testing.T) {
	t.Parallel()
	b := sample.Story(150000)
	for level := range levels {
		e := deflate.New(level)
		var results expect.Results
		var all []byte
		for part := range slices.Chunk(b, 10000) {
			write(t, e, part)
			out := e.Take()
			results.Add(out)
			all = append(all, out...)
		}
		results.Check(t)
		flushed := flushed(t, e)
		all = append(all, flushed...)
		spoil(flushed)
		write(t, e, b[:2000])
		wantData(t, fmt.Sprint("level ", level), append(all, closed(t, e)...), slices.Concat(b, b[:2000]))
	}
}

// R5: encoders know nothing of each other, and the same calls have the same
// results.
func TestEncodersAreApart(t *testing.T) {
	t.Parallel()
	one, other := sample.Story(90000), sample.Few(90000, 3)
	for level := range levels {
		wantOne, wantOther := deflate.Whole(one, level), deflate.Whole(other, level)
		e, f := deflate.New(level), deflate.New(level)
		var ofE, ofF []byte
		for i := 0; i < 90000; i += 1500 {
			write(t, e, one[i:i+1500])
			write(t, f, other[i:i+1500])
			ofE = append(ofE, e.Take()...)
			ofF = append(ofF, f.Take()...)
		}
		wantBytes(t, fmt.Sprint("one, level ", level), append(ofE, closed(t, e)...), wantOne)
		wantBytes(t, fmt.Sprint("other, level ", level), append(ofF, closed(t, f)...), wantOther)
		wantBytes(t, fmt.Sprint("one again, level ", level), deflate.Whole(one, level), wantOne)
	}
}

// memory returns the number of bytes that are in use.
func memory() int {
	var stats runtime.MemStats
	runtime.GC()
	runtime.ReadMemStats(&stats)
	return int(stats.HeapAlloc)
}

// P11.1: of many bytes whose stream was taken no more stays in memory than the
// stream still needs, and after Close nothing.
func TestOldDataAreNotKept(t *testing.T) {
	const total = 1 << 22
	b := sample.Noise(total)
	for _, level := range []int{0, 6} {
		before := memory()
		once, parts := deflate.New(level), deflate.New(level)
		write(t, once, b)
		once.Take()
		for part := range slices.Chunk(b, 1<<12) {
			write(t, parts, part)
			parts.Take()
		}
		if used := memory() - before; used > 10<<20 {
			t.Errorf("level %d: %d bytes are in use", level, used)
		}
		for _, e := range []*deflate.Encoder{once, parts} {
			closed(t, e)
		}
		if used := memory() - before; used > 1<<20 {
			t.Errorf("level %d: %d bytes are in use after Close", level, used)
		}
		runtime.KeepAlive(once)
		runtime.KeepAlive(parts)
	}
	runtime.KeepAlive(b)
}
