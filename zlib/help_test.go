package zlib_test

import (
	"bytes"
	"fmt"
	"hash/adler32"
	"testing"

	"concertina/api"
	"concertina/deflate"
	"concertina/internal/expect"
	"concertina/internal/sample"
	"concertina/zlib"
)

// far is a limit that no output of the tests reaches.
const far = 1 << 30

// everything is more than any output of the tests has.
const everything = 1 << 40

// What the tests of other packages need as well.
var (
	wantBytes = expect.Bytes
	wantErr   = expect.Err
	wantTake  = expect.Take
	wantStays = expect.Stays
	wantDone  = expect.Done
	takeAll   = expect.All
	closed    = expect.Closed
	write     = expect.Write
	short     = expect.Short
	prefixes  = sample.Prefixes
	always    = sample.Always
	spoil     = sample.Spoil
)

// begin are the first two bytes of the files of the encoder.
const begin = "\x78\x9c"

// big returns the bytes of a number, the highest one first.
func big(v uint32) string {
	return string([]byte{byte(v >> 24), byte(v >> 16), byte(v >> 8), byte(v)})
}

// sum returns the bytes of the checksum of data.
func sum[T string | []byte](data T) string {
	return big(adler32.Checksum([]byte(data)))
}

// file returns a file with these data.
func file[T string | []byte](data T) []byte {
	return []byte(begin + string(deflate.Whole([]byte(data), 6)) + sum(data))
}

// whole returns what a file comes to that is fed at once, with its end or without.
func whole(b []byte, most int, end bool) result {
	d := zlib.NewDecoder(most)
	d.Feed(b)
	if end {
		d.End()
	}
	var x result
	x.out, _ = d.Take(everything)
	_, x.err = d.Take(1)
	return x
}

// inParts returns what a file comes to that is fed in parts of some sizes, of which
// the next ones are asked for again and again, while its output is taken n bytes
// at once. If soon is true, its end is marked together with its last part;
// otherwise when all before it was taken.
func inParts(t *testing.T, b []byte, most int, next func() int, n int, soon bool) result {
	t.Helper()
	d := zlib.NewDecoder(most)
	var x result
	x.out, x.err = expect.Decode(t, d, b, next, n, func() {
		if soon {
			d.End()
		}
	})
	if !soon {
		wantSame(t, "before End", x, read(b, most, false))
		d.End()
		_, x.err = d.Take(n)
	}
	wantStays(t, d, x.err)
	d.Feed(file("fed behind the end"))
	d.End()
	wantStays(t, d, x.err)
	return x
}

// wantSame compares what files come to.
func wantSame(t *testing.T, what string, got, want result) {
	t.Helper()
	wantBytes(t, what, got.out, want.out)
	wantErr(t, what, got.err, want.err)
}

// wantResult compares what a file comes to, as a whole and in parts.
func wantResult(t *testing.T, what string, b []byte, most int, want result) {
	t.Helper()
	wantSame(t, what+", read", read(b, most, true), want)
	wantSame(t, what+", whole", whole(b, most, true), want)
	wantSame(t, what+", whole, without its end", whole(b, most, false), read(b, most, false))
	for i, x := range []struct{ size, n int }{{1, 1}, {1, everything}, {7, 3}, {1000, 1}, {len(b), 1000}, {len(b), everything}} {
		got := inParts(t, b, most, always(max(x.size, 1)), x.n, i%2 == 0)
		wantSame(t, fmt.Sprintf("%s, parts of %d and %d bytes", what, x.size, x.n), got, want)
	}
}

// wantFile compares the data of a file, which is complete. One that is cut off has
// the beginning of its data, and never an end.
func wantFile(t *testing.T, what string, b []byte, data []byte) {
	t.Helper()
	wantResult(t, what, b, far, result{data, api.ErrDone})
	for i := range prefixes(b) {
		for _, end := range []bool{false, true} {
			x := whole(b[:i], far, end)
			wantErr(t, fmt.Sprintf("%s, %d of %d bytes", what, i, len(b)), x.err, api.ErrEnd)
			if !bytes.HasPrefix(data, x.out) {
				t.Errorf("%s, %d of %d bytes: %d bytes %q", what, i, len(b), len(x.out), short(x.out))
			}
		}
	}
}

// wantFailure compares the data of a file before an error, and the error, which is
// there with the last byte of the file and not before, and stays whatever follows.
func wantFailure(t *testing.T, what string, b []byte, most int, want string, err api.Errno) {
	t.Helper()
	x := result{[]byte(want), err}
	wantResult(t, what, b, most, x)
	wantSame(t, what+", without its end", whole(b, most, false), x)
	more := append(bytes.Clone(b), file("more")...)
	wantResult(t, what+", and more", more, most, x)
	wantErr(t, fmt.Sprintf("%s, %d bytes", what, len(b)-1), whole(b[:len(b)-1], most, false).err, api.ErrEnd)
	for i := range prefixes(b) {
		for _, end := range []bool{false, true} {
			wantSame(t, fmt.Sprintf("%s, %d of %d bytes", what, i, len(b)), whole(b[:i], most, end), read(b[:i], most, end))
		}
	}
}
