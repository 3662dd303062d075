package gzip_test

import (
	"fmt"
	"math/rand"
	"strings"
	"testing"

	"concertina/api"
	"concertina/gzip"
	"concertina/internal/sample"
)

// P13.3: a wrong checksum or a wrong length of a member, even if only one bit is
// wrong: told when all 8 bytes are there, whichever is wrong, and not before.
func TestWrongTotals(t *testing.T) {
	t.Parallel()
	x := few()[1]
	first, all := file(few(), "first", "")
	for _, data := range []string{"", "abc"} {
		for bit := range 64 {
			b := []byte(member(x.b, data))
			b[len(b)-8+bit/8] ^= 1 << (bit % 8)
			what := fmt.Sprintf("%q, bit %d", data, bit)
			wantFailure(t, what, b, far, data, api.ErrSum, x.h)
			if bit%7 == 0 {
				what += ", behind others"
				wantFailure(t, what, append(first[:len(first):len(first)], b...), far, "first"+data, api.ErrSum, append(all.headers[:2:2], x.h)...)
			}
		}
	}
}

// P13.3: totals of other data, or in another order.
func TestOtherTotals(t *testing.T) {
	good := member(zeroHeader, "abc")
	good = good[:len(good)-8]
	sum, size := totals("abc")[:4], totals("abc")[4:]
	for what, tail := range map[string]string{
		"of other data":                 totals("abd"),
		"of no data":                    totals(""),
		"of data of both members":       totals("abcabc"),
		"length before the checksum":    size + sum,
		"highest byte first":            "\x35\x24\x41\xc2\x00\x00\x00\x03",
		"right checksum, length of one": sum + "\x01\x00\x00\x00",
		"other checksum, right length":  totals("abd")[:4] + size,
		"zeros":                         "\x00\x00\x00\x00\x00\x00\x00\x00",
	} {
		wantFailure(t, what, []byte(good+tail), far, "abc", api.ErrSum, api.Header{})
		both := member(zeroHeader, "abc") + good + tail
		wantFailure(t, what+", second member", []byte(both), far, "abcabc", api.ErrSum, api.Header{}, api.Header{})
	}
	right := good + "\xc2\x41\x24\x35\x03\x00\x00\x00"
	wantResult(t, "right ones", []byte(right), far, result{[]byte("abc"), api.ErrDone, []api.Header{{}}})
}

// P13.3: the errors of a header: in the first member, and in another one.
func TestHeaderErrors(t *testing.T) {
	t.Parallel()
	long := strings.Repeat("n", 4097)
	for what, x := range map[string]struct {
		err api.Errno
		b   string
	}{
		"first byte":   {api.ErrForm, "\x1e"},
		"second byte":  {api.ErrForm, "\x1f\x8c"},
		"third byte":   {api.ErrForm, "\x1f\x8b\x09"},
		"flag 32":      {api.ErrForm, "\x1f\x8b\x08\x20"},
		"flag 64":      {api.ErrForm, "\x1f\x8b\x08\x40"},
		"flag 128":     {api.ErrForm, "\x1f\x8b\x08\x80"},
		"all flags":    {api.ErrForm, "\x1f\x8b\x08\xff"},
		"long name":    {api.ErrForm, "\x1f\x8b\x08\x08\x00\x00\x00\x00\x00\x00" + long},
		"long comment": {api.ErrForm, "\x1f\x8b\x08\x1a\x00\x00\x00\x00\x00\x00\x00" + long},
		"checksum":     {api.ErrSum, "\x1f\x8b\x08\x02\x00\x00\x00\x00\x00\x00\x1d\x27"},
	} {
		wantFailure(t, what, []byte(x.b), far, "", x.err)
		wantFailure(t, what+", second member", append(plain("abc"), x.b...), far, "abc", x.err, api.Header{})
		wantFailure(t, what+", behind no data", append(plain(""), x.b...), far, "", x.err, api.Header{})
	}
}

// P13.3: any other byte behind a member, with the end or without, and whatever
// follows.
func TestOtherBytesBehindAMember(t *testing.T) {
	for v := range 256 {
		b := append(plain("abc"), byte(v))
		x := result{[]byte("abc"), api.ErrForm, []api.Header{{}}}
		if v == 31 {
			x.err = api.ErrEnd
		}
		what := fmt.Sprint("byte ", v)
		wantSame(t, what, whole(b, far, true), x)
		wantSame(t, what+", without the end", whole(b, far, false), x)
		wantSame(t, what+", in parts", inParts(t, b, far, always(1), 1, false), x)
		x.err = api.ErrForm
		wantSame(t, what+", and more", whole(append(b, 0, 0, 0), far, true), x)
	}
}

// P13.3: an error of the stream of a member, behind the data before it.
func TestStreamErrors(t *testing.T) {
	t.Parallel()
	for what, x := range map[string]struct {
		err       api.Errno
		b, output string
	}{
		"kind 3":                    {api.ErrForm, "\x07", ""},
		"kind 3 behind a block":     {api.ErrForm, "\x00\x02\x00\xfd\xffab\x07", "ab"},
		"length of a stored block":  {api.ErrForm, "\x01\x01\x00\xff\xff", ""},
		"numbers of lengths":        {api.ErrForm, "\x00\x02\x00\xfd\xffab\xfd\xff\x00", "ab"},
		"a distance too far back":   {api.ErrCode, "\x00\x02\x00\xfd\xffab\x03\x22", "ab"},
		"a distance without output": {api.ErrCode, "\x03\x02", ""},
		"no length":                 {api.ErrCode, "\x1b\x03", ""},
	} {
		wantFailure(t, what, []byte(zeroHeader+x.b), far, x.output, x.err, api.Header{})
		// A distance does not reach into the member before.
		wantFailure(t, what+", second member", append(plain("abcdefghij"), zeroHeader+x.b...), far, "abcdefghij"+x.output, x.err, api.Header{}, api.Header{})
	}
}

// P13.3: the bytes before an error are there first, and the error stays, whatever
// is fed.
func TestErrorsStay(t *testing.T) {
	x := few()[1]
	for what, c := range map[string]struct {
		err api.Errno
		b   string
	}{
		"a wrong byte":    {api.ErrForm, member(x.b, "abcdef") + "\x00"},
		"a wrong sum":     {api.ErrSum, member(x.b, "abcdef")[:len(member(x.b, "abcdef"))-1] + "\x01"},
		"a wrong stream":  {api.ErrCode, member(x.b, "abcdef") + x.b + "\x03\x02"},
		"a wrong header":  {api.ErrSum, member(x.b, "abcdef") + x.b[:len(x.b)-1] + "\x00"},
		"too many bytes":  {api.ErrCap, member(x.b, "abcdefg")},
		"too many, later": {api.ErrCap, member(x.b, "abcdef") + member(x.b, "g")},
	} {
		for _, end := range []bool{false, true} {
			d := gzip.NewDecoder(6)
			d.Feed([]byte(c.b))
			if end {
				d.End()
			}
			wantTake(t, d, 4, "abcd", api.OK)
			wantTake(t, d, 4, "ef", api.ErrEnd)
			list := d.Headers()
			for range 3 {
				wantStays(t, d, c.err)
				d.Feed(nil)
				d.Feed([]byte{0})
				d.Feed(plain("more"))
				d.End()
			}
			wantHeaders(t, what, d.Headers(), read([]byte(c.b), 6, true).headers)
			if len(list) > len(d.Headers()) {
				t.Errorf("%s: %d headers before the error", what, len(list))
			}
		}
	}
}

// P13.3: of several errors the first one by its position.
func TestFirstError(t *testing.T) {
	good, header := member(zeroHeader, "abc"), few()[3].b
	longer := member(zeroHeader, "abcdef")
	for what, x := range map[string]struct {
		err api.Errno
		b   string
		out string
	}{
		"stream, then totals":        {api.ErrForm, zeroHeader + "\x07" + strings.Repeat("\x00", 20), ""},
		"totals, then a wrong byte":  {api.ErrSum, good[:len(good)-1] + "\x01\x00", "abc"},
		"header's sum, then stream":  {api.ErrSum, header[:len(header)-1] + "\x00\x07", ""},
		"a wrong byte, then others":  {api.ErrForm, good + "\x00" + header[:len(header)-1] + "\x00", "abc"},
		"wrong flags, then the sum":  {api.ErrForm, "\x1f\x8b\x08\x22\x00\x00\x00\x00\x00\x00\x00\x00", ""},
		"first member, then another": {api.ErrSum, good[:len(good)-5] + "\x00\x03\x00\x00\x00" + zeroHeader + "\x07", "abc"},
		"limit, then totals":         {api.ErrCap, longer[:len(longer)-8] + strings.Repeat("\x00", 8), "abcd"},
	} {
		got := whole([]byte(x.b), 4, true)
		wantErr(t, what, got.err, x.err)
		wantBytes(t, what, got.out, []byte(x.out))
		wantSame(t, what, inParts(t, []byte(x.b), 4, always(1), 1, false), got)
	}
}

// P13.3: files with wrong bytes come to what the chapter says, whatever that is.
func TestFilesWithWrongBytes(t *testing.T) {
	t.Parallel()
	random := rand.New(rand.NewSource(1))
	small, _ := file(few(), "first", "", "third and last", "")
	large, _ := file(few(), string(sample.Story(3000)), string(sample.Few(500, 3)))
	name := strings.Repeat("n", 4096)
	long, _ := file([]known{flagged(10, "", name, ""), flagged(16, "", "", name)}, "abc", "def")
	files := [][]byte{small, small, small, large, long}
	seen := map[api.Errno]int{}
	for i := range 6000 {
		b := append([]byte(nil), files[i%len(files)]...)
		for range random.Intn(3) {
			b[random.Intn(min(len(b), 1+random.Intn(len(b))))] ^= 1 << random.Intn(8)
		}
		if random.Intn(4) == 0 {
			b = b[:random.Intn(len(b)+1)]
		}
		most := far
		if random.Intn(4) == 0 {
			most = random.Intn(40)
		}
		seen[wantAsRead(t, random, b, most)]++
	}
	for _, err := range []api.Errno{api.ErrDone, api.ErrForm, api.ErrCode, api.ErrSum, api.ErrEnd, api.ErrCap} {
		if seen[err] < 50 {
			t.Errorf("error %d was there %d times", err, seen[err])
		}
	}
}

// wantAsRead compares what a file comes to with what the test's own reading says, as
// a whole and in parts.
func wantAsRead(t *testing.T, random *rand.Rand, b []byte, most int) api.Errno {
	t.Helper()
	want := read(b, most, true)
	what := fmt.Sprintf("%d bytes %x, limit %d", len(b), b[:min(len(b), 100)], most)
	wantSame(t, what, whole(b, most, true), want)
	next := func() int { return random.Intn(2 + len(b)/2) }
	wantSame(t, what+", in parts", inParts(t, b, most, next, 1+random.Intn(1000), random.Intn(2) == 0), want)
	return want.err
}
