package gzip_test

import (
	"bytes"
	"fmt"
	"reflect"
	"testing"

	"concertina/api"
	"concertina/gzip"
	"concertina/internal/expect"
	"concertina/internal/sample"
)

// far is a limit that no output of the tests reaches.
const far = 1 << 30

// everything is more than any output of the tests has.
const everything = 1 << 40

// levels is the number of levels, from 0 on.
const levels = 10

// What the tests of other packages need as well.
var (
	wantBytes = expect.Bytes
	wantErr   = expect.Err
	wantTake  = expect.Take
	wantStays = expect.Stays
	wantDone  = expect.Done
	takeAll   = expect.All
	closed    = expect.Closed
	write     = expect.Write
	short     = expect.Short
	prefixes  = sample.Prefixes
	always    = sample.Always
	spoil     = sample.Spoil
)

// wantHeader compares a header.
func wantHeader(t *testing.T, what string, got, want api.Header) {
	t.Helper()
	sameExtra := bytes.Equal(got.Extra, want.Extra)
	got.Extra, want.Extra = nil, nil
	if !sameExtra || !reflect.DeepEqual(got, want) {
		t.Errorf("%s: header %.200q instead of %.200q, Extra is the same: %t", what, fmt.Sprintf("%+v", got), fmt.Sprintf("%+v", want), sameExtra)
	}
}

// wantHeaders compares headers.
func wantHeaders(t *testing.T, what string, got, want []api.Header) {
	t.Helper()
	if len(got) != len(want) {
		t.Errorf("%s: %d headers instead of %d", what, len(got), len(want))
		return
	}
	for i := range got {
		wantHeader(t, fmt.Sprintf("%s, header %d", what, i), got[i], want[i])
	}
}

// inParts returns what a file comes to that is fed in parts of some sizes, of which
// the next ones are asked for again and again, while its output is taken n bytes
// at once. If soon is true, its end is marked together with its last part;
// otherwise when all before it was taken.
func inParts(t *testing.T, b []byte, most int, next func() int, n int, soon bool) result {
	t.Helper()
	d := gzip.NewDecoder(most)
	var x result
	x.out, x.err = expect.Decode(t, d, b, next, n, func() {
		if soon {
			d.End()
		}
	})
	x.headers = d.Headers()
	if !soon {
		wantSame(t, "before End", x, read(b, most, false))
		d.End()
		_, x.err = d.Take(n)
		wantHeaders(t, "after End", d.Headers(), x.headers)
	}
	wantStays(t, d, x.err)
	d.Feed(plain("fed behind the end"))
	d.End()
	wantStays(t, d, x.err)
	wantHeaders(t, "at the end", d.Headers(), x.headers)
	return x
}

// whole returns what a file comes to that is fed at once, with its end or without.
func whole(b []byte, most int, end bool) result {
	d := gzip.NewDecoder(most)
	d.Feed(b)
	if end {
		d.End()
	}
	var x result
	x.out, _ = d.Take(everything)
	_, x.err = d.Take(1)
	x.headers = d.Headers()
	return x
}

// wantSame compares what files come to.
func wantSame(t *testing.T, what string, got, want result) {
	t.Helper()
	wantBytes(t, what, got.out, want.out)
	wantErr(t, what, got.err, want.err)
	wantHeaders(t, what, got.headers, want.headers)
}

// wantResult compares what a file comes to, as a whole and in parts.
func wantResult(t *testing.T, what string, b []byte, most int, want result) {
	t.Helper()
	wantSame(t, what+", read", read(b, most, true), want)
	wantSame(t, what+", whole", whole(b, most, true), want)
	wantSame(t, what+", whole, without its end", whole(b, most, false), read(b, most, false))
	for i, x := range []struct{ size, n int }{{1, 1}, {1, everything}, {7, 3}, {1000, 1}, {len(b), 1000}, {len(b), everything}} {
		got := inParts(t, b, most, always(max(x.size, 1)), x.n, i%2 == 0)
		wantSame(t, fmt.Sprintf("%s, parts of %d and %d bytes", what, x.size, x.n), got, want)
	}
}

// wantFailure compares the output of a file before an error, the error, which is
// there with the last byte of the file and not before, and stays whatever follows,
// and the headers that were read till then.
func wantFailure(t *testing.T, what string, b []byte, most int, want string, err api.Errno, headers ...api.Header) {
	t.Helper()
	x := result{[]byte(want), err, headers}
	wantResult(t, what, b, most, x)
	wantSame(t, what+", without its end", whole(b, most, false), x)
	more := append(bytes.Clone(b), plain("more")...)
	wantResult(t, what+", and more", more, most, x)
	wantErr(t, fmt.Sprintf("%s, %d bytes", what, len(b)-1), whole(b[:len(b)-1], most, false).err, api.ErrEnd)
	for i := range prefixes(b) {
		for _, end := range []bool{false, true} {
			wantSame(t, fmt.Sprintf("%s, %d of %d bytes", what, i, len(b)), whole(b[:i], most, end), read(b[:i], most, end))
		}
	}
}
