package coding_test

import (
	"bytes"
	"fmt"
	"runtime"
	"slices"
	"testing"

	"concertina/api"
	"concertina/coding"
	"concertina/internal/expect"
	"concertina/internal/sample"
)

// R4: what is written isn't changed, with its spare capacity, and may be changed by the
// caller afterwards.
func TestEncoderKeepsNoArgument(t *testing.T) {
	data := sample.Story(60000)
	for _, c := range all {
		for _, size := range []int{100, 5000, 50000} {
			e := coding.NewEncoder(c, 6)
			expect.Lend(t, data, size, func(part []byte) { write(t, e, part) })
			wantEncoded(t, c, 6, closed(t, e), data)
		}
	}
}

// R4: no result is changed by a later call, and no later call by what the caller does
// with a result, also with its spare capacity.
func TestResultsOfTheEncoder(t *testing.T) {
	t.Parallel()
	data := sample.Story(100000)
	for _, c := range all {
		b := expect.Apart(t, coding.NewEncoder(c, 6), coding.NewEncoder(c, 6), data, 20000)
		wantEncoded(t, c, 6, b, data)
	}
}

// lent returns what bytes come to that are fed in parts of one size, in memory that
// changes afterwards; some output is taken behind each part, or all behind the last one.
func lent(t *testing.T, d decoder, b []byte, size int, soon bool) result {
	t.Helper()
	var all []byte
	expect.Lend(t, b, size, func(part []byte) {
		d.Feed(part)
		if soon {
			out, _ := d.Take(999)
			all = append(all, out...)
		}
	})
	d.End()
	out, err := takeAll(t, d, 999)
	return result{append(all, out...), err}
}

// R4: what is fed isn't changed, with its spare capacity, and may be changed by the
// caller afterwards.
func TestFeedKeepsNoArgument(t *testing.T) {
	t.Parallel()
	data := slices.Concat(sample.Story(20000), sample.Noise(3000))
	for _, size := range []int{1, 10, 1000, 40000} {
		for _, soon := range []bool{false, true} {
			for _, c := range all {
				got := lent(t, coding.NewDecoder(c, far), encoded(t, c, 6, data), size, soon)
				wantSame(t, fmt.Sprintf("coding %d, parts of %d bytes", c, size), got, result{data, api.ErrDone})
			}
			for _, p := range pairs() {
				b := p.input(t, data)
				got := lent(t, p.pipe(6, far), b, size, soon)
				wantSame(t, fmt.Sprintf("%v, parts of %d bytes", p, size), got, p.want(t, b, 6, far))
			}
		}
	}
}

// wantApart looks whether no result is changed by a later call, and no later call by
// what the caller does with a result, also with its spare capacity.
func wantApart(t *testing.T, d decoder, b []byte, want result, n int) {
	t.Helper()
	half := len(b) / 2
	d.Feed(b[:half])
	var results expect.Results
	var all []byte
	for i := 0; ; i++ {
		part, err := d.Take(n)
		all = append(all, part...)
		if i%2 == 0 {
			spoil(part)
		} else {
			results.Add(part)
		}
		if half > 0 && len(part) < n {
			d.Feed(b[half:])
			d.End()
			half = 0
		} else if len(part) == 0 {
			wantSame(t, fmt.Sprintf("Take(%d)", n), result{all, err}, want)
			break
		}
	}
	results.Check(t)
}

// R4: so it is for all decoders and pipes.
func TestResults(t *testing.T) {
	t.Parallel()
	data := slices.Concat(sample.Story(20000), sample.Noise(5000), make([]byte, 5000))
	for _, n := range []int{1, 7, 1000, 20000} {
		for _, c := range all {
			wantApart(t, coding.NewDecoder(c, far), encoded(t, c, 6, data), result{data, api.ErrDone}, n)
		}
		for _, p := range pairs() {
			b := p.input(t, data)
			wantApart(t, p.pipe(6, far), b, p.want(t, b, 6, far), n)
		}
	}
}

// R5: pipes know nothing of each other, and the same calls have the same results.
func TestObjectsAreApart(t *testing.T) {
	t.Parallel()
	data := [][]byte{sample.Story(40000), sample.Few(40000, 3)}
	for _, p := range conversions() {
		for range 2 {
			pipes := []*coding.Pipe{p.pipe(9, far), p.pipe(1, far)}
			inputs := [][]byte{p.input(t, data[0]), p.input(t, data[1])}
			var outs [2][]byte
			for at := 0; at < 40000; at += 100 {
				for i, x := range pipes {
					x.Feed(inputs[i][min(at, len(inputs[i])):min(at+100, len(inputs[i]))])
					b, _ := takeAll(t, x, 33)
					outs[i] = append(outs[i], b...)
				}
			}
			for i, x := range pipes {
				x.Feed(inputs[i][min(40000, len(inputs[i])):])
				x.End()
				b, err := takeAll(t, x, 33)
				wantSame(t, p.String(), result{append(outs[i], b...), err}, p.want(t, inputs[i], []int{9, 1}[i], far))
			}
		}
	}
}

// memory returns the number of bytes that are in use.
func memory() int {
	var stats runtime.MemStats
	runtime.GC()
	runtime.ReadMemStats(&stats)
	return int(stats.HeapAlloc)
}

// wantLittleMemory compares the bytes that are in use with those of before.
func wantLittleMemory(t *testing.T, what string, before int) {
	t.Helper()
	if used := memory() - before; used > 1<<21 {
		t.Errorf("%s: %d bytes are in use", what, used)
	}
}

// P15.2, P15.3: neither the input that was read nor the output that was taken is kept.
func TestOldDataAreNotKept(t *testing.T) {
	data := sample.Noise(1 << 22)
	for _, p := range []pair{{0, 0}, {1, 3}, {0, 1}, {0, 2}, {1, 0}, {2, 0}, {1, 2}, {2, 1}} {
		b := encoded(t, p.from, 0, data)
		before := memory()
		once, parts := p.pipe(0, far), p.pipe(0, far)
		d := coding.NewDecoder(p.from, far)
		e := coding.NewEncoder(p.to, 0)
		once.Feed(b)
		takeAll(t, once, 1<<14)
		for part := range slices.Chunk(b, 1<<12) {
			parts.Feed(part)
			takeAll(t, parts, 1<<14)
			d.Feed(part)
			out, _ := takeAll(t, d, 1<<14)
			write(t, e, out)
			e.Take()
		}
		wantLittleMemory(t, p.String(), before)
		once.End()
		parts.End()
		d.End()
		runtime.KeepAlive(e)
	}
}

// P15.3: a small input has its large output as it is taken, not at once.
func TestOutputIsMadeAsItIsTaken(t *testing.T) {
	zeros := make([]byte, 1<<23)
	for _, from := range packed {
		b := encoded(t, from, 1, zeros)
		for _, to := range []int{-1, api.Identity, 3 - from} {
			before := memory()
			x := coding.NewPipe(from, to, 0, far)
			x.Feed(b)
			x.End()
			for range 100 {
				if out, err := x.Take(1000); err != api.OK || len(out) != 1000 {
					t.Fatalf("%d bytes, error %d", len(out), err)
				}
			}
			wantLittleMemory(t, fmt.Sprintf("%d to %d", from, to), before)
			runtime.KeepAlive(x)
		}
	}
}

// P15.2, P15.3: what is fed behind an error or the end, or stood there before, is not kept.
func TestNothingIsKeptBehindTheEnd(t *testing.T) {
	noise := sample.Noise(1 << 23)
	for _, p := range conversions() {
		for _, x := range []struct {
			b    []byte
			most int
			end  bool
		}{{p.input(t, []byte("abc")), 2, false}, {p.input(t, nil), 0, true}, {noise, 2, false}} {
			before := memory()
			pipe, d := p.pipe(6, x.most), coding.NewDecoder(p.from, x.most)
			for _, y := range []decoder{pipe, d} {
				y.Feed(x.b)
				if x.end {
					y.End()
				}
				y.Feed(noise)
				if _, err := takeAll(t, y, 100); err == api.ErrEnd {
					t.Fatalf("%v: neither an end nor an error", p)
				}
				y.Feed(noise)
				y.Feed(noise)
			}
			wantLittleMemory(t, p.String(), before)
			runtime.KeepAlive(pipe)
			runtime.KeepAlive(d)
		}
	}
	runtime.KeepAlive(noise)
}

// P15.2: of unchanged bytes none beyond the limit is kept, even before that is told.
func TestNothingIsKeptBeyondTheLimit(t *testing.T) {
	noise := sample.Noise(1 << 23)
	before := memory()
	d := coding.NewDecoder(api.Identity, 3)
	d.Feed(noise)
	d.Feed(noise)
	wantLittleMemory(t, "beyond the limit", before)
	out, err := takeAll(t, d, 2)
	wantSame(t, "limit", result{out, err}, result{noise[:3], api.ErrCap})
}

// P15.3: at the end, and behind an error, nothing is kept that only more input would need.
func TestLittleIsKeptAtTheEnd(t *testing.T) {
	noise := sample.Noise(40000)
	for _, p := range conversions() {
		for _, most := range []int{40000, 39999} {
			b := p.input(t, noise)
			before := memory()
			var pipes []*coding.Pipe
			for range 30 {
				x := p.pipe(6, most)
				x.Feed(b)
				x.End()
				takeAll(t, x, 10000)
				pipes = append(pipes, x)
			}
			wantLittleMemory(t, p.String(), before)
			for _, x := range pipes {
				if _, err := x.Take(1); err == api.ErrEnd {
					t.Fatal("neither an end nor an error")
				}
			}
		}
	}
}

// R4: a part that is fed alone is not the memory of the one that is taken.
func TestOnePart(t *testing.T) {
	for _, c := range plain {
		e, d, p := coding.NewEncoder(c, 6), coding.NewDecoder(c, far), coding.NewPipe(c, c, 6, 0)
		b := append(make([]byte, 0, 100), "abc"...)
		write(t, e, b)
		d.Feed(b)
		p.Feed(b)
		outs := [][]byte{e.Take()}
		for _, x := range []decoder{d, p} {
			out, _ := x.Take(3)
			outs = append(outs, out)
		}
		spoil(b)
		for i, out := range outs {
			wantBytes(t, "part", out, []byte("abc"))
			spoil(out)
			for _, other := range outs[i+1:] {
				wantBytes(t, "another part", other, []byte("abc"))
			}
		}
		if bytes.Equal(b, []byte("abc")) {
			t.Fatal("not changed")
		}
	}
}
