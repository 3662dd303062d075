package zlib_test

import (
	"bytes"
	"fmt"
	"math"
	"testing"

	"concertina/api"
	"concertina/internal/sample"
	"concertina/zlib"
)

// P14.2: with each limit below their length the data have just as many bytes, then
// ErrCap. With a limit of their length, or above, the file is complete.
func TestLimits(t *testing.T) {
	data := []byte("data, data, data, and more")
	b := file(data)
	for most := range data {
		wantResult(t, fmt.Sprint("limit ", most), b, most, result{data[:most], api.ErrCap})
	}
	for _, most := range []int{len(data), len(data) + 1, 1 << 40, math.MaxInt} {
		wantResult(t, fmt.Sprint("limit ", most), b, most, result{data, api.ErrDone})
	}
}

// P14.2: a limit below 0 counts as 0: a file without data is complete, and others
// have no byte.
func TestLimitsBelowZero(t *testing.T) {
	for _, most := range []int{0, -1, -2, -256, -1 << 32, math.MinInt} {
		what := fmt.Sprint("limit ", most)
		wantResult(t, what, file(""), most, result{nil, api.ErrDone})
		wantResult(t, what+", data", file("abc"), most, result{nil, api.ErrCap})
	}
}

// P14.2: ErrCap is there with the byte that is too much, and not before.
func TestWhereTheLimitIs(t *testing.T) {
	for most := range 5 {
		text := "abcde"[:most]
		stored := begin + "\x01\x05\x00\xfa\xff" + text + "!" // a block of 5 bytes
		wantFailure(t, fmt.Sprint("limit ", most), []byte(stored), most, text, api.ErrCap)
	}
}

// P14.2: with the limit reached, other errors come first if they are first.
func TestErrorsAtTheLimit(t *testing.T) {
	good := string(file("abc"))
	for what, x := range map[string]struct {
		err api.Errno
		b   string
	}{
		"sum":           {api.ErrSum, good[:len(good)-1] + "\x01"},
		"a byte behind": {api.ErrForm, good + "\x00"},
		"kind 3":        {api.ErrForm, begin + "\x00\x03\x00\xfc\xffabc\x07"},
	} {
		wantFailure(t, what, []byte(x.b), 3, "abc", x.err)
	}
}

// P14.2: of much data too there are just as many bytes as allowed.
func TestLimitsOfMuch(t *testing.T) {
	for _, data := range [][]byte{sample.Story(100000), sample.Noise(100000), make([]byte, 100000)} {
		b := file(data)
		for _, most := range []int{1, 1024, 32767, 32768, 32769, 99999, 100000} {
			want := result{data[:most], api.ErrCap}
			if most == len(data) {
				want.err = api.ErrDone
			}
			what := fmt.Sprint("limit ", most)
			wantSame(t, what, whole(b, most, true), want)
			wantSame(t, what, inParts(t, b, most, always(1000), 777, true), want)
		}
	}
}

// P14.2: Take of just what is allowed is OK; the error is behind it.
func TestTakeAtTheLimit(t *testing.T) {
	b := file("abcd")
	d := zlib.NewDecoder(3)
	d.Feed(b)
	wantTake(t, d, 3, "abc", api.OK)
	wantTake(t, d, 0, "", api.OK)
	wantTake(t, d, 1, "", api.ErrCap)
	d = zlib.NewDecoder(3)
	d.Feed(b)
	wantTake(t, d, 4, "abc", api.ErrEnd)
	wantTake(t, d, 4, "", api.ErrCap)
	wantStays(t, d, api.ErrCap)
}

// P14.2: the limit does not hang on how much is asked for.
func TestLimitByteByByte(t *testing.T) {
	data := bytes.Repeat([]byte("abcdefghij"), 30)
	for most := range 300 {
		d := zlib.NewDecoder(most)
		d.Feed(file(data))
		out, err := takeAll(t, d, 1)
		wantBytes(t, fmt.Sprint("limit ", most), out, data[:most])
		wantErr(t, fmt.Sprint("limit ", most), err, api.ErrCap)
	}
}
