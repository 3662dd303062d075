package coding_test

import (
	"fmt"
	"math"
	"testing"

	"concertina/api"
	"concertina/coding"
	"concertina/gzip"
	"concertina/internal/expect"
	"concertina/internal/sample"
	"concertina/zlib"
)

// far is a limit that no output of the tests reaches.
const far = 1 << 30

// everything is more than any output of the tests has.
const everything = 1 << 40

// levels is the number of levels, from 0 on.
const levels = 10

// What the tests of other packages need as well.
var (
	wantBytes = expect.Bytes
	wantErr   = expect.Err
	wantTake  = expect.Take
	wantStays = expect.Stays
	wantDone  = expect.Done
	takeAll   = expect.All
	closed    = expect.Closed
	write     = expect.Write
	always    = sample.Always
	spoil     = sample.Spoil
)

// The codings, and values that are none.
var (
	named   = []int{api.Identity, api.Gzip, api.Zlib}
	packed  = []int{api.Gzip, api.Zlib}
	strange = []int{-1, -2, 4, 5, 255, 256, 257, 258, math.MinInt, math.MaxInt}
	plain   = append([]int{api.Identity, api.Other}, strange...)
	all     = append([]int{api.Gzip, api.Zlib}, plain...)
)

// isPacked tells whether data of a coding are not the same bytes.
func isPacked(c int) bool {
	return c == api.Gzip || c == api.Zlib
}

// encoded returns data in a coding, as the chapters before this one have it.
func encoded[T string | []byte](t *testing.T, c, level int, data T) []byte {
	t.Helper()
	switch c {
	case api.Gzip:
		e, err := gzip.New(level, api.Header{})
		wantErr(t, "gzip.New", err, api.OK)
		write(t, e, []byte(data))
		return closed(t, e)
	case api.Zlib:
		e := zlib.New(level)
		write(t, e, []byte(data))
		return closed(t, e)
	}
	return []byte(data)
}

// result is what bytes come to: an output, and what is behind it.
type result struct {
	out []byte
	err api.Errno
}

// wantSame compares what bytes come to.
func wantSame(t *testing.T, what string, got, want result) {
	t.Helper()
	wantBytes(t, what, got.out, want.out)
	wantErr(t, what, got.err, want.err)
}

// decoder is what decodes bytes, or converts them.
type decoder interface {
	expect.Feeder
	End()
}

// whole returns what bytes come to that are fed at once, with their end or without.
func whole(t *testing.T, d decoder, b []byte, end bool) result {
	t.Helper()
	d.Feed(b)
	if end {
		d.End()
	}
	out, err := takeAll(t, d, 1<<20)
	return result{out, err}
}

// inParts returns what bytes come to that are fed in parts of some sizes, of which
// the next ones are asked for again and again, while the output is taken n bytes at
// once. If soon is true, the end is marked together with the last part; otherwise
// when all before it was taken.
func inParts(t *testing.T, d decoder, b []byte, next func() int, n int, soon bool) result {
	t.Helper()
	var x result
	x.out, x.err = expect.Decode(t, d, b, next, n, func() {
		if soon {
			d.End()
		}
	})
	if !soon {
		if x.err == api.ErrDone {
			t.Errorf("an end before End")
		}
		d.End()
		var last []byte
		last, x.err = takeAll(t, d, n)
		x.out = append(x.out, last...)
	}
	wantStays(t, d, x.err)
	d.Feed([]byte("fed behind the end"))
	d.End()
	wantStays(t, d, x.err)
	return x
}

// read returns what bytes in a coding come to, as the chapters before this one have
// it.
func read(t *testing.T, c int, b []byte, most int, end bool) result {
	t.Helper()
	switch {
	case c == api.Gzip:
		return whole(t, gzip.NewDecoder(most), b, end)
	case c == api.Zlib:
		return whole(t, zlib.NewDecoder(most), b, end)
	case len(b) > max(most, 0):
		return result{b[:max(most, 0)], api.ErrCap}
	case end:
		return result{b, api.ErrDone}
	}
	return result{b, api.ErrEnd}
}

// pair is what a pipe converts from and to.
type pair struct{ from, to int }

// String returns a text for a message.
func (p pair) String() string {
	return fmt.Sprintf("%d to %d", p.from, p.to)
}

// unchanged tells whether a pipe leaves all bytes as they are, without a limit.
func (p pair) unchanged() bool {
	return p.from == p.to || p.from == api.Other || p.to == api.Other
}

// pairs are all pairs of codings, and those with some values that are none.
func pairs() []pair {
	var list []pair
	for _, from := range []int{api.Identity, api.Gzip, api.Zlib, api.Other, -1, 4, math.MaxInt} {
		for _, to := range []int{api.Identity, api.Gzip, api.Zlib, api.Other, -1, 4, math.MinInt} {
			list = append(list, pair{from, to})
		}
	}
	return list
}

// conversions are the pairs of codings that differ.
func conversions() []pair {
	var list []pair
	for _, from := range named {
		for _, to := range named {
			if from != to {
				list = append(list, pair{from, to})
			}
		}
	}
	return list
}

// pipe returns a pipe.
func (p pair) pipe(level, most int) *coding.Pipe {
	return coding.NewPipe(p.from, p.to, level, most)
}

// input returns what a pipe converts of these data: bytes in its first coding.
func (p pair) input(t *testing.T, data []byte) []byte {
	t.Helper()
	return encoded(t, p.from, 6, data)
}

// want returns what a pipe makes of complete bytes, of which at most most bytes of
// data are allowed.
func (p pair) want(t *testing.T, b []byte, level, most int) result {
	t.Helper()
	if p.unchanged() {
		return result{b, api.ErrDone}
	}
	x := read(t, p.from, b, most, true)
	return result{encoded(t, p.to, level, x.out), x.err}
}

// wantConverted compares what a pipe makes of bytes with what it should make of
// them. Before an error, some of that is enough.
func (p pair) wantConverted(t *testing.T, what string, got, want result) {
	t.Helper()
	if want.err != api.ErrDone {
		// All data before it may be there, but never their end.
		if len(got.out) > len(want.out) || isPacked(p.to) && len(got.out) == len(want.out) {
			t.Errorf("%s, %v: %d bytes", what, p, len(got.out))
			return
		}
		want.out = want.out[:len(got.out)]
	}
	wantSame(t, fmt.Sprintf("%s, %v", what, p), got, want)
}
