package inflate_test

import (
	"bytes"
	"fmt"
	"testing"

	"concertina/api"
	"concertina/inflate"
	"concertina/internal/expect"
	"concertina/internal/sample"
)

// far is a limit that no output of the tests reaches.
const far = 1 << 30

// everything is more than any output of the tests has.
const everything = 1 << 40

// What the tests of other packages need as well.
var (
	wantBytes = expect.Bytes
	wantErr   = expect.Err
	wantTake  = expect.Take
	takeAll   = expect.All
	short     = expect.Short
	prefixes  = sample.Prefixes
	always    = sample.Always
	spoil     = sample.Spoil
)

// wantSame compares what streams come to.
func wantSame(t *testing.T, what string, got, want result) {
	t.Helper()
	wantBytes(t, what, got.out, want.out)
	wantErr(t, what, got.err, want.err)
	wantBytes(t, what+", rest", got.rest, want.rest)
}

// whole returns what a stream comes to by Whole.
func whole(b []byte, most int) result {
	out, rest, err := inflate.Whole(b, most)
	if err == api.OK {
		err = api.ErrDone
	}
	return result{out, err, rest}
}

// inParts returns what a stream comes to that is fed in parts of some sizes, of
// which the next ones are asked for again and again, while its output is taken n
// bytes at once.
func inParts(t *testing.T, b []byte, most int, next func() int, n int) result {
	t.Helper()
	d := inflate.New(most)
	var x result
	x.out, x.err = expect.Decode(t, d, b, next, n, func() {})
	expect.Stays(t, d, x.err)
	x.rest = d.Rest()
	wantBytes(t, "second rest", d.Rest(), nil)
	wantTake(t, d, n, "", x.err)
	return x
}

// wantResult compares what a stream comes to, as a whole and in parts.
func wantResult(t *testing.T, what string, b []byte, most int, want result) {
	t.Helper()
	wantSame(t, what+", read", read(b, max(most, 0)), want)
	wantSame(t, what+", whole", whole(b, most), want)
	for _, x := range []struct{ size, n int }{{1, 1}, {1, everything}, {7, 3}, {1000, 1}, {len(b), 1000}, {len(b), everything}} {
		got := inParts(t, b, most, always(max(x.size, 1)), x.n)
		wantSame(t, fmt.Sprintf("%s, parts of %d and %d bytes", what, x.size, x.n), got, want)
	}
}

// behind are the bytes that stand behind streams in these tests.
const behind = "\x05\xffbehind"

// wantData compares the output of a stream, which is complete: alone, and with
// bytes behind it. A stream that is cut off has the beginning of that output.
func wantData(t *testing.T, what string, b, want []byte) {
	t.Helper()
	wantResult(t, what, b, far, result{want, api.ErrDone, nil})
	more := append(bytes.Clone(b), behind...)
	wantResult(t, what+", and more", more, far, result{want, api.ErrDone, []byte(behind)})
	for i := range prefixes(b) {
		x := whole(b[:i], far)
		wantErr(t, fmt.Sprintf("%s, %d of %d bytes", what, i, len(b)), x.err, api.ErrEnd)
		if !bytes.HasPrefix(want, x.out) || x.rest != nil {
			t.Errorf("%s, %d of %d bytes: %d bytes %q, %d bytes rest", what, i, len(b), len(x.out), short(x.out), len(x.rest))
		}
	}
}

// wantFailure compares the output of a stream before an error, and the error,
// which is there with the last bit of the stream and not before, and stays
// whatever follows.
func wantFailure(t *testing.T, what string, b []byte, most int, want string, err api.Errno) {
	t.Helper()
	x := result{[]byte(want), err, nil}
	wantResult(t, what, b, most, x)
	more := append(bytes.Clone(b), behind...)
	wantResult(t, what+", and more", more, most, x)
	for i := range prefixes(b) {
		x := whole(b[:i], most)
		wantErr(t, fmt.Sprintf("%s, %d of %d bytes", what, i, len(b)), x.err, api.ErrEnd)
		wantSame(t, fmt.Sprintf("%s, %d of %d bytes", what, i, len(b)), x, read(b[:i], max(most, 0)))
	}
}
