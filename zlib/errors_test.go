package zlib_test

import (
	"fmt"
	"strings"
	"testing"

	"concertina/api"
	"concertina/internal/sample"
	"concertina/zlib"
)

// P14.2: a wrong checksum, even if only one bit is wrong: told when all 4 bytes are
// there, whichever is wrong, and not before.
func TestWrongSums(t *testing.T) {
	t.Parallel()
	for _, data := range []string{"", "abc"} {
		for bit := range 32 {
			b := file(data)
			b[len(b)-4+bit/8] ^= 1 << (bit % 8)
			wantFailure(t, fmt.Sprintf("%q, bit %d", data, bit), b, far, data, api.ErrSum)
		}
	}
}

// P14.2: checksums of other data, or in another order.
func TestOtherSums(t *testing.T) {
	good := string(file("abc"))
	good = good[:len(good)-4]
	for what, tail := range map[string]string{
		"of other data":     sum("abd"),
		"of no data":        sum(""),
		"of fewer data":     sum("ab"),
		"of more data":      sum("abca"),
		"lowest byte first": "\x27\x01\x4d\x02",
		"halves swapped":    "\x01\x27\x02\x4d",
		"CRC-32":            "\x35\x24\x41\xc2",
		"zeros":             "\x00\x00\x00\x00",
	} {
		wantFailure(t, what, []byte(good+tail), far, "abc", api.ErrSum)
	}
	wantResult(t, "right one", []byte(good+"\x02\x4d\x01\x27"), far, result{[]byte("abc"), api.ErrDone})
	wantFailure(t, "no data", []byte("\x78\x9c\x03\x00\x00\x00\x00\x00"), far, "", api.ErrSum)
}

// P14.2: the checksum is that of all data, however they are taken.
func TestSumsOfMuch(t *testing.T) {
	for _, data := range [][]byte{sample.Story(100000), sample.Noise(70000), []byte(strings.Repeat("\xff", 300000))} {
		b := file(data)
		for _, n := range []int{1000, 5553, 65521, everything} {
			wantSame(t, "right", inParts(t, b, far, always(10000), n, true), result{data, api.ErrDone})
			b[len(b)-1]++
			wantSame(t, "wrong", inParts(t, b, far, always(10000), n, true), result{data, api.ErrSum})
			b[len(b)-1]--
		}
	}
}

// P14.2: bytes behind the file are an error with the first of them, whatever it is,
// and with the end or without.
func TestBytesBehindTheFile(t *testing.T) {
	for v := range 256 {
		for _, data := range []string{"", "abc"} {
			b := append(file(data), byte(v))
			x := result{[]byte(data), api.ErrForm}
			what := fmt.Sprintf("%q and byte %d", data, v)
			wantSame(t, what, whole(b, far, true), x)
			wantSame(t, what+", without the end", whole(b, far, false), x)
			wantSame(t, what+", in parts", inParts(t, b, far, always(1), 1, false), x)
		}
	}
	for _, data := range []string{"", "abc"} {
		for _, more := range []string{"\x00", string(file("another file"))[:1]} {
			wantFailure(t, "one byte behind", append(file(data), more...), far, data, api.ErrForm)
		}
	}
}

// P14.2: bytes that come behind the file when its end was seen, or all was taken.
func TestBytesBehindTheFileLater(t *testing.T) {
	for _, n := range []int{0, 2, 3, 4, 100} {
		for _, more := range [][]byte{{0}, file("another file"), sample.Noise(5000)} {
			d := zlib.NewDecoder(far)
			d.Feed(file("abc"))
			first, _ := d.Take(n)
			d.Feed(more)
			rest, err := takeAll(t, d, 2)
			wantBytes(t, "output", append(first, rest...), []byte("abc"))
			wantErr(t, "bytes behind", err, api.ErrForm)
			d.End()
			wantStays(t, d, api.ErrForm)
		}
	}
}

// streamErrors are streams with an error in their last byte, by what is wrong.
func streamErrors() map[string]struct {
	err       api.Errno
	b, output string
} {
	return map[string]struct {
		err       api.Errno
		b, output string
	}{
		"kind 3":                    {api.ErrForm, "\x07", ""},
		"kind 3 behind a block":     {api.ErrForm, "\x00\x02\x00\xfd\xffab\x07", "ab"},
		"length of a stored block":  {api.ErrForm, "\x01\x01\x00\xff\xff", ""},
		"numbers of lengths":        {api.ErrForm, "\x00\x02\x00\xfd\xffab\xfd\xff\x00", "ab"},
		"a distance too far back":   {api.ErrCode, "\x00\x02\x00\xfd\xffab\x03\x22", "ab"},
		"a distance without output": {api.ErrCode, "\x03\x02", ""},
		"no length":                 {api.ErrCode, "\x1b\x03", ""},
	}
}

// P14.2: an error of the stream, behind the data before it.
func TestStreamErrors(t *testing.T) {
	t.Parallel()
	for what, x := range streamErrors() {
		wantFailure(t, what, []byte(begin+x.b), far, x.output, x.err)
	}
}

// P14.2: the bytes before an error are there first, and the error stays, whatever
// is fed.
func TestErrorsStay(t *testing.T) {
	good := string(file("abcdef"))
	for what, x := range map[string]struct {
		err api.Errno
		b   string
	}{
		"a byte behind":  {api.ErrForm, good + "\x00"},
		"a wrong sum":    {api.ErrSum, good[:len(good)-1] + "\x00"},
		"a wrong stream": {api.ErrCode, begin + "\x00\x06\x00\xf9\xffabcdef\x03\x3e"},
		"too many bytes": {api.ErrCap, string(file("abcdefg"))},
	} {
		for _, end := range []bool{false, true} {
			d := zlib.NewDecoder(6)
			d.Feed([]byte(x.b))
			if end {
				d.End()
			}
			wantTake(t, d, 4, "abcd", api.OK)
			wantTake(t, d, 4, "ef", api.ErrEnd)
			for range 3 {
				wantStays(t, d, x.err)
				d.Feed(nil)
				d.Feed([]byte{0})
				d.Feed(file("more"))
				d.End()
			}
			wantErr(t, what, whole([]byte(x.b), 6, end).err, x.err)
		}
	}
}

// P14.2: of several errors the first one by its position.
func TestFirstError(t *testing.T) {
	good, longer := string(file("abc")), string(file("abcdef"))
	for what, x := range map[string]struct {
		err    api.Errno
		b, out string
	}{
		"first bytes, then stream":  {api.ErrForm, "\x78\x9d\x03\x02", ""},
		"stream, then sum":          {api.ErrCode, begin + "\x03\x02" + strings.Repeat("\x00", 20), ""},
		"sum, then a byte behind":   {api.ErrSum, good[:len(good)-1] + "\x00\x00", "abc"},
		"limit, then sum":           {api.ErrCap, longer[:len(longer)-4] + "\x00\x00\x00\x00", "abcd"},
		"limit, then stream":        {api.ErrCap, begin + "\x00\x06\x00\xf9\xffabcdef\x07", "abcd"},
		"stream, then limit":        {api.ErrForm, begin + "\x00\x03\x00\xfc\xffabc\x07defghi", "abc"},
		"limit, then a byte behind": {api.ErrCap, longer + "\x00", "abcd"},
	} {
		got := whole([]byte(x.b), 4, true)
		wantErr(t, what, got.err, x.err)
		wantBytes(t, what, got.out, []byte(x.out))
		wantSame(t, what, inParts(t, []byte(x.b), 4, always(1), 1, false), got)
	}
}
