package inflate_test

import (
	"bytes"
	"fmt"
	"math"
	"math/rand"
	"testing"

	"concertina/api"
	"concertina/deflate"
	"concertina/inflate"
	"concertina/internal/sample"
)

// P12.1: before anything was fed there is no output, and more input is needed.
func TestTakeBeforeFeed(t *testing.T) {
	for _, most := range []int{-1, 0, 100} {
		d := inflate.New(most)
		for range 2 {
			for _, n := range []int{1, 2, 100, math.MaxInt} {
				wantTake(t, d, n, "", api.ErrEnd)
			}
			for _, n := range []int{0, -1, -100, math.MinInt} {
				wantTake(t, d, n, "", api.OK)
			}
			wantBytes(t, "rest", d.Rest(), nil)
			d.Feed(nil)
			d.Feed([]byte{})
		}
	}
}

// P12.1: OK with as many bytes as asked for, ErrEnd with fewer, and without any
// ErrEnd if more input is needed or ErrDone at the end.
func TestTake(t *testing.T) {
	b := packed(inner, fixedKind, literals("abcdef"), fixedEnd, last, storedKind, storedText("ghijkl"))
	d := inflate.New(far)
	d.Feed(b[:len(b)-4])
	wantTake(t, d, 2, "ab", api.OK)
	wantTake(t, d, 0, "", api.OK)
	wantTake(t, d, -5, "", api.OK)
	wantTake(t, d, 3, "cde", api.OK)
	wantTake(t, d, 10, "fgh", api.ErrEnd)
	wantTake(t, d, 10, "", api.ErrEnd)
	wantTake(t, d, 1, "", api.ErrEnd)
	d.Feed(nil)
	wantTake(t, d, 1, "", api.ErrEnd)
	d.Feed(b[len(b)-4 : len(b)-1])
	wantTake(t, d, 3, "ijk", api.OK)
	wantTake(t, d, 1, "", api.ErrEnd)
	d.Feed(b[len(b)-1:])
	wantTake(t, d, 2, "l", api.ErrEnd)
	for range 3 {
		wantTake(t, d, 1, "", api.ErrDone)
		wantTake(t, d, math.MaxInt, "", api.ErrDone)
		wantTake(t, d, 0, "", api.OK)
		wantTake(t, d, math.MinInt, "", api.OK)
	}
}

// P12.1: Take of just all bytes is OK, and the end is behind them.
func TestTakeOfAll(t *testing.T) {
	d := inflate.New(far)
	d.Feed(packed(last, fixedKind, literals("abc"), fixedMatch(5, 3), fixedEnd))
	wantTake(t, d, 8, "abcabcab", api.OK)
	wantTake(t, d, 1, "", api.ErrDone)
}

// P12.1: the bytes of one match can be taken one by one, and with others.
func TestTakeWithinAMatch(t *testing.T) {
	want := string(repeated([]byte("abc"), 258, 3)) + "!"
	for n := 1; n <= len(want)+1; n++ {
		d := inflate.New(far)
		d.Feed(packed(last, fixedKind, literals("abc"), fixedMatch(258, 3), literals("!"), fixedEnd))
		for rest := want; len(rest) > 0; {
			if n > len(rest) {
				wantTake(t, d, n, rest, api.ErrEnd)
				break
			}
			wantTake(t, d, n, rest[:n], api.OK)
			rest = rest[n:]
		}
		wantTake(t, d, n, "", api.ErrDone)
	}
}

// P12.1: the bytes before an error are there first, and the error stays, whatever
// is fed.
func TestErrorsStay(t *testing.T) {
	for _, err := range []api.Errno{api.ErrForm, api.ErrCode, api.ErrCap} {
		text := map[api.Errno]string{api.ErrForm: fixedEnd + last + reservedKind, api.ErrCode: fixedMatch(3, 7), api.ErrCap: literals("g")}[err]
		b := packed(inner, fixedKind, literals("abcdef"), text)
		d := inflate.New(6)
		d.Feed(b)
		wantTake(t, d, 4, "abcd", api.OK)
		wantTake(t, d, 4, "ef", api.ErrEnd)
		for range 3 {
			wantTake(t, d, 4, "", err)
			wantTake(t, d, 1, "", err)
			wantTake(t, d, 0, "", api.OK)
			wantTake(t, d, -1, "", api.OK)
			wantBytes(t, "rest", d.Rest(), nil)
			d.Feed(nil)
			d.Feed([]byte{3, 0})
			d.Feed(packed(last, storedKind, storedText("more")))
		}
	}
}

// P12.1: as many bytes as are available: after each byte of the stream those that
// can be known from what was fed.
func TestAvailable(t *testing.T) {
	limited, _ := limitedStream()
	for name, b := range map[string][]byte{
		"kinds": limited,
		"story": deflate.Whole(sample.Story(3000), 9),
		"noise": deflate.Whole(sample.Noise(300), 9),
		"error": packed(inner, fixedKind, literals("abcdef"), fixedMatch(20, 5), fixedMatch(20, 30)),
	} {
		d := inflate.New(far)
		n := 0
		for i := range b {
			d.Feed(b[i : i+1])
			x := read(b[:i+1], far)
			out, err := takeAll(t, d, everything)
			wantBytes(t, fmt.Sprintf("%s, %d bytes", name, i+1), out, x.out[n:])
			wantErr(t, fmt.Sprintf("%s, %d bytes", name, i+1), err, x.err)
			n = len(x.out)
		}
	}
}

// P12.1, P12.3: parts of random sizes, some of them empty, and output in any sizes.
func TestRandomParts(t *testing.T) {
	random := rand.New(rand.NewSource(12))
	limited, _ := limitedStream()
	for name, b := range map[string][]byte{
		"kinds": limited,
		"story": deflate.Whole(sample.Story(100000), 6),
		"zeros": deflate.Whole(make([]byte, 100000), 6),
		"noise": deflate.Whole(sample.Noise(40000), 6),
	} {
		want := read(append(bytes.Clone(b), behind...), far)
		for range 20 {
			most := 1 << random.Intn(16)
			next := func() int { return random.Intn(2 + random.Intn(most)) }
			got := inParts(t, append(bytes.Clone(b), behind...), far, next, 1+random.Intn(most))
			wantSame(t, fmt.Sprintf("%s, parts below %d", name, most), got, want)
		}
	}
}

// P12.1: before the end was read there is no rest, and what is fed is still read.
func TestRestBeforeTheEnd(t *testing.T) {
	b := packed(inner, fixedKind, literals("abc"), fixedEnd, last, storedKind, storedText("def"))
	for i := range b {
		d := inflate.New(far)
		d.Feed(b[:i])
		wantBytes(t, "rest before Take", d.Rest(), nil)
		out, _ := takeAll(t, d, everything)
		wantBytes(t, "rest", d.Rest(), nil)
		d.Feed(append(bytes.Clone(b[i:]), behind...))
		wantBytes(t, "rest before the next Take", d.Rest(), nil)
		more, err := takeAll(t, d, everything)
		wantErr(t, "at the end", err, api.ErrDone)
		wantBytes(t, "output", append(out, more...), []byte("abcdef"))
		wantBytes(t, "rest at the end", d.Rest(), []byte(behind))
		wantBytes(t, "second rest", d.Rest(), nil)
	}
}

// P12.1: the bytes behind the stream come once, whether they were fed together with
// its last byte, later, or after its end was known.
func TestRest(t *testing.T) {
	streams := map[string][]byte{
		"empty":              {3, 0},
		"stored":             packed(last, storedKind, storedText("abc")),
		"within a byte":      packed(last, fixedKind, literals("abc"), fixedEnd),
		"at a byte boundary": packed(last, fixedKind, literals("\xff\xff\xff\xff\xff\xff"), fixedEnd),
	}
	for name, b := range streams {
		for i := range len(behind) + 1 {
			d := inflate.New(far)
			d.Feed(append(bytes.Clone(b), behind[:i]...))
			d.Feed([]byte(behind[i:]))
			_, err := takeAll(t, d, 2)
			wantErr(t, name, err, api.ErrDone)
			wantBytes(t, name+", rest of two parts", d.Rest(), []byte(behind))
			wantBytes(t, name+", second rest", d.Rest(), nil)
			wantTake(t, d, 1, "", api.ErrDone)

			d = inflate.New(far)
			d.Feed(append(bytes.Clone(b), behind[:i]...))
			takeAll(t, d, 2)
			d.Feed([]byte(behind[i:]))
			wantTake(t, d, 1, "", api.ErrDone)
			wantBytes(t, name+", rest that is fed behind the end", d.Rest(), []byte(behind))
			wantBytes(t, name+", second rest", d.Rest(), nil)
			d.Feed(nil)
			wantBytes(t, name+", third rest", d.Rest(), nil)
			wantTake(t, d, 1, "", api.ErrDone)
		}
	}
}

// P12.1: the same for a stream that ends with each bit of a byte: the other bits of
// its last byte belong to it.
func TestRestBehindEachBit(t *testing.T) {
	for n := range 9 {
		out := bytes.Repeat([]byte{0xff}, n) // 9 bits each
		b := packed(last, fixedKind, literals(out), fixedEnd)
		wantData(t, fmt.Sprint(n, " bytes"), b, out)
	}
}

// P12.1: each byte behind the stream is returned once, also if it comes after others
// were returned.
func TestRestAfterRest(t *testing.T) {
	d := inflate.New(far)
	d.Feed([]byte{3, 0, 1, 2})
	wantTake(t, d, 1, "", api.ErrDone)
	wantBytes(t, "first", d.Rest(), []byte{1, 2})
	d.Feed([]byte{3, 4})
	wantTake(t, d, 1, "", api.ErrDone)
	wantBytes(t, "second", d.Rest(), []byte{3, 4})
	wantBytes(t, "third", d.Rest(), nil)
}
