package gzip_test

import (
	"fmt"
	"math/rand"
	"slices"
	"testing"

	"concertina/api"
	"concertina/gzip"
	"concertina/internal/sample"
)

// P13.3: as many bytes as are available: after each byte of a file those that can be
// known from what was fed, and the headers that were read.
func TestAvailable(t *testing.T) {
	small, _ := file(few(), "first", "", "third", "", "and more of it")
	large, _ := file(few(), string(sample.Story(3000)), string(sample.Noise(300)))
	broken := slices.Concat(small, plain("abc"), []byte("\x1f\x8b\x08\x20"))
	for name, b := range map[string][]byte{"small": small, "large": large, "broken": broken} {
		d := gzip.NewDecoder(far)
		n := 0
		for i := range b {
			d.Feed(b[i : i+1])
			x := read(b[:i+1], far, false)
			out, err := takeAll(t, d, everything)
			what := fmt.Sprintf("%s, %d bytes", name, i+1)
			wantBytes(t, what, out, x.out[n:])
			wantErr(t, what, err, x.err)
			wantHeaders(t, what, d.Headers(), x.headers)
			n = len(x.out)
		}
	}
}

// P13.3: a file divided at each place, with all that is available taken there.
func TestTwoParts(t *testing.T) {
	t.Parallel()
	b, want := file(few(), "first", "", "third", "last")
	for i := range len(b) + 1 {
		for _, n := range []int{1, 4, everything} {
			for _, soon := range []bool{false, true} {
				sizes := []int{i, len(b)}
				next := func() int {
					size := sizes[0]
					sizes = append(sizes[1:], len(b))
					return size
				}
				what := fmt.Sprintf("divided at %d, %d bytes at once", i, n)
				wantSame(t, what, inParts(t, b, far, next, n, soon), want)
			}
		}
	}
}

// P13.3: parts of random sizes, some of them empty, and output in any sizes.
func TestRandomParts(t *testing.T) {
	t.Parallel()
	random := rand.New(rand.NewSource(13))
	small, _ := file(few(), "first", "", "third", "", "")
	large, _ := file(few(), string(sample.Story(60000)), string(make([]byte, 50000)), "", string(sample.Noise(20000)))
	every, _ := file(headers(), make([]string, len(headers()))...)
	for name, b := range map[string][]byte{"small": small, "large": large, "headers": every} {
		want := read(b, far, true)
		for i := range 20 {
			most := 1 << random.Intn(16)
			next := func() int { return random.Intn(2 + random.Intn(most)) }
			got := inParts(t, b, far, next, 1+random.Intn(most), i%2 == 0)
			wantSame(t, fmt.Sprintf("%s, parts below %d", name, most), got, want)
		}
	}
}

// P13.3: before a header was read completely it isn't there; then it is, also while
// its data, or those of others, are still to come.
func TestHeaders(t *testing.T) {
	kinds := few()[1:3]
	one, other := []byte(member(kinds[0].b, "abc")), []byte(member(kinds[1].b, "def"))
	d := gzip.NewDecoder(far)
	wantHeaders(t, "new", d.Headers(), nil)
	n := len(kinds[0].b)
	d.Feed(one[:n-1])
	wantStays(t, d, api.ErrEnd)
	wantHeaders(t, "one byte is missing", d.Headers(), nil)
	d.Feed(one[n-1 : n])
	wantHeaders(t, "the header alone", d.Headers(), []api.Header{kinds[0].h})
	wantStays(t, d, api.ErrEnd)
	d.Feed(one[n:])
	wantTake(t, d, 2, "ab", api.OK)
	wantHeaders(t, "within the data", d.Headers(), []api.Header{kinds[0].h})
	wantTake(t, d, 2, "c", api.ErrEnd)
	wantStays(t, d, api.ErrEnd)
	wantHeaders(t, "between members", d.Headers(), []api.Header{kinds[0].h})
	d.Feed(other[:len(kinds[1].b)])
	wantHeaders(t, "two headers", d.Headers(), []api.Header{kinds[0].h, kinds[1].h})
	d.Feed(other[len(kinds[1].b):])
	wantTake(t, d, 3, "def", api.OK)
	d.End()
	wantStays(t, d, api.ErrDone)
	wantHeaders(t, "at the end", d.Headers(), []api.Header{kinds[0].h, kinds[1].h})
}

// P13.3: behind an error there are the headers that were read before it, and that of
// the member which has the error in its data, but none that has one itself.
func TestHeadersBehindAnError(t *testing.T) {
	kinds := few()
	good, x := file(kinds, "abc", "", "def")
	for what, c := range map[string]struct {
		b string
		n int
	}{
		"a wrong byte":   {"\x00", 3},
		"a wrong header": {kinds[3].b[:len(kinds[3].b)-1] + "\x00", 3},
		"a wrong stream": {kinds[3].b + "\x07", 4},
		"a wrong sum":    {kinds[3].b + "\x03\x00\x00\x00\x01\x00\x00\x00\x00\x00", 4},
		"too many bytes": {kinds[3].b + "\x01\x01\x00\xfe\xffa", 4},
		"cut off header": {kinds[3].b[:len(kinds[3].b)-1], 3},
		"cut off stream": {kinds[3].b + "\x03", 4},
		"cut off sum":    {kinds[3].b + "\x03\x00\x00\x00\x00\x00\x00\x00\x00", 4},
	} {
		want := append(slices.Clone(x.headers), kinds[3].h)[:c.n]
		for range 2 {
			b := slices.Concat(good, []byte(c.b))
			wantHeaders(t, what, whole(b, 6, true).headers, want)
			wantHeaders(t, what, inParts(t, b, 6, always(1), 1, false).headers, want)
		}
	}
}
