package gzip_test

import (
	"bytes"
	"fmt"
	"math/rand"
	"strings"
	"testing"

	"concertina/api"
	"concertina/gzip"
)

// wantParsed compares the header that bytes begin with, and its length.
func wantParsed(t *testing.T, what string, b []byte, want api.Header, wantN int) {
	t.Helper()
	h, n, err := gzip.ParseHeader(b)
	wantErr(t, what, err, api.OK)
	wantHeader(t, what, h, want)
	if n != wantN {
		t.Errorf("%s: length %d instead of %d", what, n, wantN)
	}
}

// wantNoHeader compares the error of bytes that begin with no header.
func wantNoHeader(t *testing.T, what string, b []byte, want api.Errno) {
	t.Helper()
	h, n, err := gzip.ParseHeader(b)
	wantErr(t, what, err, want)
	wantHeader(t, what, h, api.Header{})
	if n != 0 || h.Extra != nil {
		t.Errorf("%s: length %d, Extra %q", what, n, h.Extra)
	}
}

// wantFault compares the error of bytes of which the last one is wrong: it is there
// with this byte and not before, and whatever follows.
func wantFault(t *testing.T, what, b string, want api.Errno) {
	t.Helper()
	for _, more := range []string{"", "\x00", "more", strings.Repeat("\x00", 100), strings.Repeat("\xff", 70000)} {
		wantNoHeader(t, what, []byte(b+more), want)
	}
	wantCutOff(t, what, []byte(b))
}

// wantCutOff looks whether each proper prefix is an incomplete header.
func wantCutOff(t *testing.T, what string, b []byte) {
	t.Helper()
	for i := range prefixes(b) {
		wantNoHeader(t, fmt.Sprintf("%s, %d of %d bytes", what, i, len(b)), b[:i], api.ErrEnd)
	}
}

// P13.1: the header of bytes of every kind, whatever follows, and ErrEnd for each
// proper prefix.
func TestParseHeader(t *testing.T) {
	kinds := headers()
	for flags := range byte(32) {
		kinds = append(kinds, flagged(flags, "extra", "name", "comment"), flagged(flags, "", "", ""))
	}
	for _, x := range kinds {
		for _, more := range []string{"", "\x00", "more", x.b} {
			wantParsed(t, x.name, []byte(x.b+more), x.h, len(x.b))
		}
		wantCutOff(t, x.name, []byte(x.b))
	}
	for _, b := range [][]byte{nil, {}} {
		wantNoHeader(t, "no bytes", b, api.ErrEnd)
	}
}

// P13.1: each proper prefix of a long header is incomplete.
func TestEachPrefix(t *testing.T) {
	long := strings.Repeat("long", 1024)
	b := []byte(flagged(31, strings.Repeat("\x00", 300), long, long).b)
	for i := range b {
		wantNoHeader(t, fmt.Sprint(i, " bytes"), b[:i], api.ErrEnd)
	}
}

// P13.1: each wrong byte of the first three is an error without those behind it.
func TestWrongBeginning(t *testing.T) {
	for i := range 3 {
		for v := range 256 {
			if byte(v) != zeroHeader[i] {
				wantFault(t, fmt.Sprintf("byte %d is %d", i, v), zeroHeader[:i]+string([]byte{byte(v)}), api.ErrForm)
			}
		}
	}
}

// P13.1: each flag above 16, with any others, is an error without what is behind.
func TestWrongFlags(t *testing.T) {
	for v := 32; v < 256; v++ {
		wantFault(t, fmt.Sprint("flags ", v), zeroHeader[:3]+string([]byte{byte(v)}), api.ErrForm)
	}
}

// P13.1: a text of more than MaxValue bytes is an error with the first byte that is
// too much; a 0 there is the end of the text.
func TestLongTexts(t *testing.T) {
	for name, x := range map[string]struct{ before, behind string }{
		"name":                   {"\x1f\x8b\x08\x08\x00\x00\x00\x00\x00\x00", ""},
		"name and comment":       {"\x1f\x8b\x08\x18\x00\x00\x00\x00\x00\x00", "note\x00"},
		"comment":                {"\x1f\x8b\x08\x10\x00\x00\x00\x00\x00\x00", ""},
		"comment behind others":  {"\x1f\x8b\x08\x1c\x00\x00\x00\x00\x00\x00\x02\x00abname\x00", ""},
		"comment behind nothing": {"\x1f\x8b\x08\x1c\x00\x00\x00\x00\x00\x00\x00\x00\x00", ""},
	} {
		for _, v := range []string{"a", "\x01", "\xff"} {
			good := x.before + strings.Repeat(v, 4096)
			wantFault(t, name, good+v, api.ErrForm)
			wantFault(t, name+", other byte", good+"!", api.ErrForm)
			wantCutOff(t, name+", longest", []byte(good+"\x00"+x.behind))
			if _, n, err := gzip.ParseHeader([]byte(good + "\x00" + x.behind + "more")); err != api.OK || n != len(good)+1+len(x.behind) {
				t.Errorf("%s, longest: length %d, error %d", name, n, err)
			}
		}
	}
}

// P13.1: the checksum is that of all bytes of the header before it, and a wrong one
// is an error when both of its bytes are there.
func TestChecksums(t *testing.T) {
	for _, x := range headers() {
		if !x.h.Sum {
			continue
		}
		for bit := range 16 {
			b := []byte(x.b)
			at := len(b) - 2 + bit/8
			b[at] ^= 1 << (bit % 8)
			if bit < 8 {
				wantNoHeader(t, x.name+", one byte of the checksum", b[:len(b)-1], api.ErrEnd)
			}
			wantFault(t, fmt.Sprintf("%s, bit %d of the checksum", x.name, bit), string(b), api.ErrSum)
		}
		// The byte of flags and the first three must stay what they are.
		for i := 4; i < 10; i++ {
			b := []byte(x.b)
			b[i] ^= 0x10
			wantFault(t, fmt.Sprintf("%s, byte %d", x.name, i), string(b), api.ErrSum)
		}
	}
	// The right one is f1 c8 behind "extra", "name" and "comment".
	for _, b := range []string{
		"\x1f\x8b\x08\x1f\x04\x03\x02\x01\x05\x06\x05\x00extraname\x00comment\x00\xc8\xf1",
		"\x1f\x8b\x08\x1f\x04\x03\x02\x01\x05\x06\x05\x00exTraname\x00comment\x00\xf1\xc8",
		"\x1f\x8b\x08\x1f\x04\x03\x02\x01\x05\x06\x05\x00extranaMe\x00comment\x00\xf1\xc8",
		"\x1f\x8b\x08\x1f\x04\x03\x02\x01\x05\x06\x05\x00extraname\x00coMment\x00\xf1\xc8",
		"\x1f\x8b\x08\x1f\x04\x03\x02\x01\x05\x06\x04\x00extraname\x00comment\x00\xf1\xc8",
		"\x1f\x8b\x08\x1e\x04\x03\x02\x01\x05\x06\x05\x00extraname\x00comment\x00\xf1\xc8",
	} {
		wantFault(t, fmt.Sprintf("%q", b), b, api.ErrSum)
	}
}

// P13.1: without its flag there is no checksum, whatever follows.
func TestNoChecksum(t *testing.T) {
	x := flagged(29, "extra", "name", "comment")
	for _, more := range []string{"\x00\x00", "\xff\xff"} {
		wantParsed(t, "no checksum", []byte(x.b+more), x.h, len(x.b))
	}
}

// P13.1: of several errors the first one by its position.
func TestFirstErrorOfAHeader(t *testing.T) {
	long := strings.Repeat("n", 4097)
	for what, x := range map[string]struct {
		err api.Errno
		b   string
	}{
		"long name, wrong checksum":    {api.ErrForm, "\x1f\x8b\x08\x0a\x00\x00\x00\x00\x00\x00" + long + "\x00\x00\x00"},
		"wrong checksum, wrong begin":  {api.ErrSum, "\x1f\x8b\x08\x02\x00\x00\x00\x00\x00\x00\x1d\x27\x00"},
		"wrong flags, incomplete":      {api.ErrForm, "\x1f\x8b\x08\xe0\x00"},
		"wrong begin, incomplete":      {api.ErrForm, "\x1f\x8c"},
		"long name, incomplete":        {api.ErrForm, "\x1f\x8b\x08\x18\x00\x00\x00\x00\x00\x00" + long},
		"long comment, incomplete sum": {api.ErrForm, "\x1f\x8b\x08\x12\x00\x00\x00\x00\x00\x00" + long + "\x00\x00"},
		"incomplete extra, long texts": {api.ErrEnd, "\x1f\x8b\x08\x1c\x00\x00\x00\x00\x00\x00\xff\xff" + long + long},
	} {
		wantNoHeader(t, what, []byte(x.b), x.err)
	}
}

// P13.1: headers with wrong bytes are what the chapter says, whatever that is, and
// so is each of their prefixes.
func TestHeadersWithWrongBytes(t *testing.T) {
	t.Parallel()
	random := rand.New(rand.NewSource(1))
	var kinds []string
	for flags := range byte(32) {
		kinds = append(kinds, flagged(flags, "ex", "n", "").b, flagged(flags, "", "name", "note").b)
	}
	seen := map[api.Errno]int{}
	for i := range 20000 {
		b := []byte(kinds[i%len(kinds)])
		for range random.Intn(3) {
			b[random.Intn(len(b))] ^= 1 << random.Intn(8)
		}
		for n := range len(b) + 1 {
			wantH, wantN, want := readHeader(b[:n])
			if want == api.OK {
				wantParsed(t, fmt.Sprintf("%x", b[:n]), b[:n], wantH, wantN)
			} else {
				wantNoHeader(t, fmt.Sprintf("%x", b[:n]), b[:n], want)
			}
			seen[want]++
		}
	}
	for _, err := range []api.Errno{api.OK, api.ErrForm, api.ErrSum, api.ErrEnd} {
		if seen[err] < 1000 {
			t.Errorf("error %d was there %d times", err, seen[err])
		}
	}
}

// R4: the bytes aren't changed, and the header is other memory.
func TestParseKeepsItsArgument(t *testing.T) {
	x := flagged(31, "extra", "name", "comment")
	array := []byte(x.b + "more")
	want := bytes.Clone(array)
	one, _, _ := gzip.ParseHeader(array[:len(x.b)])
	other, _, _ := gzip.ParseHeader(array)
	wantBytes(t, "argument", array, want)
	spoil(array)
	spoil(other.Extra)
	wantHeader(t, "result", one, x.h)
}
