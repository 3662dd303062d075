package gzip_test

import (
	"fmt"
	"math"
	"slices"
	"strings"
	"testing"

	"concertina/api"
	"concertina/gzip"
	"concertina/internal/sample"
)

// P13.3: with each limit below their length the data of all members together have
// just as many bytes, then ErrCap. With a limit of their length, or above, the file
// is complete.
func TestLimits(t *testing.T) {
	b, x := file(few(), "one", "", "three", "a", "", "and more")
	lengths := []int{3, 3, 8, 9, 9, 17} // of the data up to the end of each member
	for most := range x.out {
		// The member with the byte that is too much is the last one that is read.
		n, _ := slices.BinarySearch(lengths, most+1)
		want := result{x.out[:most], api.ErrCap, x.headers[:n+1]}
		wantResult(t, fmt.Sprint("limit ", most), b, most, want)
	}
	for _, most := range []int{len(x.out), len(x.out) + 1, 1 << 40, math.MaxInt} {
		wantResult(t, fmt.Sprint("limit ", most), b, most, x)
	}
}

// P13.3: a limit below 0 counts as 0: members without data are complete, and others
// have no byte.
func TestLimitsBelowZero(t *testing.T) {
	empty, x := file(few(), "", "", "")
	for _, most := range []int{0, -1, -2, -256, -1 << 32, math.MinInt} {
		what := fmt.Sprint("limit ", most)
		wantResult(t, what, empty, most, x)
		wantResult(t, what+", data", plain("abc"), most, result{nil, api.ErrCap, []api.Header{{}}})
		want := result{nil, api.ErrCap, append(slices.Clone(x.headers), api.Header{})}
		wantResult(t, what+", data at the end", slices.Concat(empty, plain("a")), most, want)
	}
}

// P13.3: ErrCap is there with the byte that is too much, in whatever member, and
// not before.
func TestWhereTheLimitIs(t *testing.T) {
	begin := zeroHeader + "\x01\x05\x00\xfa\xff" // a stored block of 5 bytes
	for most := range 5 {
		text := "abcde"[:most]
		wantFailure(t, fmt.Sprint("limit ", most), []byte(begin+text+"!"), most, text, api.ErrCap, api.Header{})
		b := append(plain("before"), begin+text+"!"...)
		wantFailure(t, fmt.Sprint("limit 6 + ", most), b, 6+most, "before"+text, api.ErrCap, api.Header{}, api.Header{})
	}
}

// P13.3: with the limit reached, members without data are read, and other errors
// come first if they are first.
func TestErrorsAtTheLimit(t *testing.T) {
	good, other := member(zeroHeader, "abc"), []api.Header{{}, {}}
	for what, x := range map[string]struct {
		err api.Errno
		b   string
		n   int
	}{
		"totals":            {api.ErrSum, good[:len(good)-1] + "\x01", 1},
		"a wrong byte":      {api.ErrForm, good + "\x00", 1},
		"a wrong header":    {api.ErrForm, good + "\x1f\x8b\x08\x20", 1},
		"a wrong stream":    {api.ErrForm, good + zeroHeader + "\x07", 2},
		"totals of nothing": {api.ErrSum, good + zeroHeader + "\x03\x00\x00\x00\x00\x00\x01\x00\x00\x00", 2},
	} {
		wantFailure(t, what, []byte(x.b), 3, "abc", x.err, other[:x.n]...)
	}
	b, x := file(few(), "", "abc", "", "")
	wantResult(t, "no more data", b, 3, x)
}

// P13.3: of much data too there are just as many bytes as allowed.
func TestLimitsOfMuch(t *testing.T) {
	data := []string{string(sample.Story(50000)), strings.Repeat("\x00", 50000), string(sample.Noise(50000))}
	b, all := file(few(), data...)
	for _, most := range []int{1, 1024, 49999, 50000, 50001, 99999, 100000, 100001, 149999, 150000} {
		want := result{all.out[:most], api.ErrCap, all.headers[:most/50000+1-most/150000]}
		if most == len(all.out) {
			want.err = api.ErrDone
		}
		what := fmt.Sprint("limit ", most)
		wantSame(t, what, whole(b, most, true), want)
		wantSame(t, what, inParts(t, b, most, always(1000), 777, true), want)
	}
}

// P13.3: Take of just what is allowed is OK; the error is behind it.
func TestTakeAtTheLimit(t *testing.T) {
	b, _ := file(few(), "ab", "cd")
	d := gzip.NewDecoder(3)
	d.Feed(b)
	wantTake(t, d, 3, "abc", api.OK)
	wantTake(t, d, 0, "", api.OK)
	wantTake(t, d, 1, "", api.ErrCap)
	d = gzip.NewDecoder(3)
	d.Feed(b)
	wantTake(t, d, 4, "abc", api.ErrEnd)
	wantTake(t, d, 4, "", api.ErrCap)
}
