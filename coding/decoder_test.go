package coding_test

import (
	"bytes"
	"fmt"
	"math"
	"math/rand"
	"testing"

	"concertina/api"
	"concertina/coding"
	"concertina/internal/sample"
)

// wantDecoded compares what bytes come to, as a whole and in parts.
func wantDecoded(t *testing.T, c int, b []byte, most int) {
	t.Helper()
	what := fmt.Sprintf("coding %d, limit %d, %d bytes", c, most, len(b))
	want := read(t, c, b, most, true)
	wantSame(t, what, whole(t, coding.NewDecoder(c, most), b, true), want)
	wantSame(t, what+", without the end", whole(t, coding.NewDecoder(c, most), b, false), read(t, c, b, most, false))
	for i, x := range []struct{ size, n int }{{1, 1}, {1, everything}, {7, 3}, {1000, 1}, {len(b), 1000}, {len(b), everything}} {
		got := inParts(t, coding.NewDecoder(c, most), b, always(max(x.size, 1)), x.n, i%2 == 0)
		wantSame(t, fmt.Sprintf("%s, parts of %d and %d bytes", what, x.size, x.n), got, want)
	}
}

// P15.2: each coding, and values that are none, which leave the bytes as they are.
func TestDecoder(t *testing.T) {
	t.Parallel()
	for _, data := range []string{"", "a", "abc", "some data, some data", string(sample.Story(3000)), string(sample.Noise(1500))} {
		for _, c := range all {
			for level := range levels {
				b := encoded(t, c, level, data)
				wantSame(t, fmt.Sprint("coding ", c), whole(t, coding.NewDecoder(c, far), b, true), result{[]byte(data), api.ErrDone})
				wantDecoded(t, c, b, far)
			}
		}
	}
}

// P15.2: large inputs.
func TestDecoderOfMuch(t *testing.T) {
	for name, data := range sample.Inputs() {
		t.Run(name, func(t *testing.T) {
			t.Parallel()
			for _, c := range all {
				b := encoded(t, c, 6, data)
				got := inParts(t, coding.NewDecoder(c, len(data)), b, always(20000), 5000, true)
				wantSame(t, fmt.Sprint("coding ", c), got, result{data, api.ErrDone})
			}
		})
	}
}

// P15.2: several members are a file of gzip, while zlib has just one file.
func TestTwoFiles(t *testing.T) {
	for c, want := range map[int]result{
		api.Gzip: {[]byte("abcdef"), api.ErrDone},
		api.Zlib: {[]byte("abc"), api.ErrForm},
	} {
		b := append(encoded(t, c, 6, "abc"), encoded(t, c, 6, "def")...)
		wantSame(t, fmt.Sprint("coding ", c), whole(t, coding.NewDecoder(c, far), b, true), want)
		wantDecoded(t, c, b, far)
	}
}

// P15.2: with each limit below their length there are just as many bytes, then ErrCap;
// with one of their length or above, all. Below 0 it counts as 0.
func TestLimits(t *testing.T) {
	data := []byte("data, data, and more")
	for _, c := range all {
		b := encoded(t, c, 6, data)
		for most := range data {
			wantSame(t, fmt.Sprintf("coding %d, limit %d", c, most), whole(t, coding.NewDecoder(c, most), b, true), result{data[:most], api.ErrCap})
			wantDecoded(t, c, b, most)
		}
		for _, most := range []int{len(data), len(data) + 1, far, math.MaxInt} {
			wantSame(t, fmt.Sprintf("coding %d, limit %d", c, most), whole(t, coding.NewDecoder(c, most), b, true), result{data, api.ErrDone})
			wantDecoded(t, c, b, most)
		}
		for _, most := range []int{0, -1, -2, -256, -1 << 32, math.MinInt} {
			wantSame(t, fmt.Sprintf("coding %d, limit %d", c, most), whole(t, coding.NewDecoder(c, most), b, true), result{nil, api.ErrCap})
			wantSame(t, fmt.Sprintf("coding %d, limit %d, no data", c, most), whole(t, coding.NewDecoder(c, most), encoded(t, c, 6, ""), true), result{nil, api.ErrDone})
			wantDecoded(t, c, b, most)
			wantDecoded(t, c, encoded(t, c, 6, ""), most)
		}
	}
}

// P15.2: of unchanged bytes ErrCap is there with the byte that is too much, and not
// before; the limit is that of all parts together.
func TestWhereTheLimitIs(t *testing.T) {
	for _, c := range plain {
		d := coding.NewDecoder(c, 5)
		d.Feed([]byte("abc"))
		wantTake(t, d, 3, "abc", api.OK)
		wantTake(t, d, 1, "", api.ErrEnd)
		d.Feed([]byte("de"))
		wantTake(t, d, 3, "de", api.ErrEnd)
		d.Feed(nil)
		wantTake(t, d, 1, "", api.ErrEnd)
		d.Feed([]byte("f"))
		for range 2 {
			wantStays(t, d, api.ErrCap)
			d.Feed([]byte("g"))
			d.Feed(nil)
			d.End()
		}
	}
}

// P15.2: the bytes that are allowed come before ErrCap, also with the one too much
// behind them.
func TestTakeAtTheLimit(t *testing.T) {
	for _, c := range plain {
		for _, more := range []string{"", "f", "fghi"} {
			d := coding.NewDecoder(c, 4)
			d.Feed([]byte("abcde" + more))
			wantTake(t, d, 1, "a", api.OK)
			wantTake(t, d, 0, "", api.OK)
			wantTake(t, d, 2, "bc", api.OK)
			wantTake(t, d, 2, "d", api.ErrEnd)
			d.End()
			wantStays(t, d, api.ErrCap)
			d = coding.NewDecoder(c, 4)
			d.Feed([]byte("abcde" + more))
			wantTake(t, d, 4, "abcd", api.OK)
			wantTake(t, d, 4, "", api.ErrCap)
		}
	}
}

// P15.2: OK with as many bytes as asked for; ErrEnd with fewer, and without any if more
// input or the end is needed; ErrDone at the end.
func TestTake(t *testing.T) {
	for _, c := range all {
		d := coding.NewDecoder(c, far)
		wantTake(t, d, 1, "", api.ErrEnd)
		wantTake(t, d, math.MaxInt, "", api.ErrEnd)
		d.Feed(encoded(t, c, 6, "abcdefgh"))
		wantTake(t, d, 2, "ab", api.OK)
		for _, n := range []int{0, -1, -5, math.MinInt} {
			wantTake(t, d, n, "", api.OK)
		}
		wantTake(t, d, 5, "cdefg", api.OK)
		wantTake(t, d, 9, "h", api.ErrEnd)
		for range 2 {
			wantStays(t, d, api.ErrEnd)
			d.Feed(nil)
			d.Feed([]byte{})
		}
		d.End()
		for range 2 {
			wantStays(t, d, api.ErrDone)
			d.Feed(encoded(t, c, 6, "more"))
			d.End()
		}
	}
}

// P15.2: all data at once, and more than there are, before the end and behind it.
func TestTakeOfAll(t *testing.T) {
	for _, c := range all {
		for _, n := range []int{6, 7, 100, math.MaxInt} {
			for _, end := range []bool{false, true} {
				d := coding.NewDecoder(c, 6)
				d.Feed(encoded(t, c, 6, "abcdef"))
				err, last := api.ErrEnd, api.ErrEnd
				if end {
					d.End()
					last = api.ErrDone
				}
				if n == 6 {
					err = api.OK
				}
				wantTake(t, d, n, "abcdef", err)
				wantStays(t, d, last)
			}
		}
	}
}

// P15.2: the end before anything was fed: unchanged bytes may be none, a file may not.
// What is fed after it is ignored.
func TestEndAtOnce(t *testing.T) {
	for _, c := range all {
		for _, most := range []int{-1, 0, 100} {
			d := coding.NewDecoder(c, most)
			d.End()
			want := api.ErrDone
			if isPacked(c) {
				want = api.ErrEnd
			}
			for range 2 {
				wantStays(t, d, want)
				d.Feed(encoded(t, c, 6, "abc"))
				d.End()
			}
		}
	}
}

// P15.2: what is fed after End is ignored, also if nothing was taken before.
func TestFeedAfterEnd(t *testing.T) {
	for _, c := range all {
		for _, most := range []int{3, 100} {
			d := coding.NewDecoder(c, most)
			d.Feed(encoded(t, c, 6, "abc"))
			d.End()
			d.Feed(encoded(t, c, 6, "def"))
			d.End()
			d.Feed([]byte{0})
			wantTake(t, d, 2, "ab", api.OK)
			d.Feed([]byte("more"))
			wantTake(t, d, 2, "c", api.ErrEnd)
			wantStays(t, d, api.ErrDone)
		}
	}
}

// faults are bytes in a coding with an error, which no end is needed to see.
func faults(t *testing.T, c int) map[string]struct {
	b   []byte
	err api.Errno
} {
	t.Helper()
	list := map[string]struct {
		b   []byte
		err api.Errno
	}{}
	good := encoded(t, c, 6, "abcdef")
	add := func(what string, err api.Errno, parts ...[]byte) {
		list[what] = struct {
			b   []byte
			err api.Errno
		}{bytes.Join(parts, nil), err}
	}
	head := good[:2]
	sum := len(good) - 4
	if c == api.Gzip {
		head, sum = good[:10], len(good)-8
		last := bytes.Clone(good)
		last[len(last)-1] ^= 1
		add("length", api.ErrSum, last)
		add("header", api.ErrForm, []byte{31, 139, 7})
		add("flag", api.ErrForm, []byte{31, 139, 8, 32})
		add("checksum of the header", api.ErrSum, []byte{31, 139, 8, 2, 0, 0, 0, 0, 0, 0, 0, 0})
	} else {
		add("first byte", api.ErrForm, []byte{0x79})
		add("second byte", api.ErrForm, []byte{0x78, 0x9d})
	}
	wrong := bytes.Clone(good)
	wrong[sum] ^= 1
	add("checksum", api.ErrSum, wrong)
	add("behind it", api.ErrForm, good, []byte{0})
	add("kind 3", api.ErrForm, head, []byte{7})
	add("stored length", api.ErrForm, head, []byte{1, 1, 0, 1, 0})
	add("distance", api.ErrCode, head, []byte{3, 2})
	add("no length", api.ErrCode, head, []byte{0x1b, 3})
	add("stored bytes, then kind 3", api.ErrForm, head, []byte{0, 3, 0, 0xfc, 0xff}, []byte("abc"), []byte{7})
	add("limit", api.ErrCap, encoded(t, c, 6, make([]byte, 10001)))
	return list
}

// faultLimit is the limit of faults.
const faultLimit = 10000

// P15.2: the errors of chapters 13 and 14, which stay.
func TestDecoderErrors(t *testing.T) {
	t.Parallel()
	for _, c := range packed {
		for what, x := range faults(t, c) {
			d := coding.NewDecoder(c, faultLimit)
			got := whole(t, d, x.b, false)
			wantErr(t, what, got.err, x.err)
			wantSame(t, what, got, read(t, c, x.b, faultLimit, false))
			d.Feed(encoded(t, c, 6, "more"))
			d.End()
			wantStays(t, d, x.err)
			wantDecoded(t, c, x.b, faultLimit)
		}
	}
}

// P15.2: a file that is cut off never comes to its end; unchanged bytes always do.
func TestCutOff(t *testing.T) {
	data := []byte("some data, some data")
	for _, c := range all {
		b := encoded(t, c, 6, data)
		for i := range b {
			wantDecoded(t, c, b[:i], far)
			want := api.ErrDone
			if isPacked(c) {
				want = api.ErrEnd
			}
			wantErr(t, fmt.Sprintf("coding %d, %d bytes", c, i), whole(t, coding.NewDecoder(c, far), b[:i], true).err, want)
		}
	}
}

// P15.2: any bytes, in any parts, with any limit.
func TestDecoderOfAnyBytes(t *testing.T) {
	t.Parallel()
	random := rand.New(rand.NewSource(2))
	for i := range 6000 {
		c := all[i%len(all)]
		b := encoded(t, c, random.Intn(levels), sample.Story(random.Intn(300)))
		for range random.Intn(3) {
			if len(b) > 0 {
				b[random.Intn(len(b))] ^= 1 << random.Intn(8)
			}
		}
		most := random.Intn(400)
		next := func() int { return random.Intn(2 + len(b)/2) }
		d := coding.NewDecoder(c, most)
		got := inParts(t, d, b, next, 1+random.Intn(100), i%2 == 0)
		wantSame(t, fmt.Sprintf("coding %d, %x", c, b), got, read(t, c, b, most, true))
	}
}

// P15.3: a nil decoder is done. R1: so is one that NewDecoder did not make.
func TestNoDecoder(t *testing.T) {
	for _, d := range []*coding.Decoder{nil, new(coding.Decoder)} {
		for range 2 {
			for _, n := range []int{1, 100, math.MaxInt, 0, -1, math.MinInt} {
				wantTake(t, d, n, "", api.ErrDone)
			}
			d.Feed([]byte("abc"))
			d.Feed(nil)
			d.End()
		}
	}
}
