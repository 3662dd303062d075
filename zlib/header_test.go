package zlib_test

import (
	"fmt"
	"testing"

	"concertina/api"
	"concertina/zlib"
)

// rest is what stands behind the first two bytes of a file without data.
const rest = "\x03\x00\x00\x00\x00\x01"

// P14.2: each byte with which a file may begin, and each other one, which is an
// error as soon as it is there: before the second byte, and whatever that is.
func TestFirstByte(t *testing.T) {
	valid := "\x08\x18\x28\x38\x48\x58\x68\x78"
	for v := range 256 {
		b := string([]byte{byte(v)})
		good := false
		for _, x := range []byte(valid) {
			good = good || x == byte(v)
		}
		what := fmt.Sprint("first byte ", v)
		if good {
			wantResult(t, what, []byte(b), far, result{nil, api.ErrEnd})
			continue
		}
		wantFailure(t, what, []byte(b), far, "", api.ErrForm)
		// Also with a second byte with which both are a multiple of 31.
		second := byte((31 - v*256%31) % 31)
		wantResult(t, what+", multiple of 31", []byte(b+string([]byte{second})+rest), far, result{nil, api.ErrForm})
	}
}

// seconds returns the bytes that may be behind the first one.
func seconds(first int) map[int]bool {
	list := map[int]bool{}
	for v := 0; v < 65536; v += 31 {
		if v/256 == first && v&32 == 0 {
			list[v%256] = true
		}
	}
	return list
}

// P14.2: each byte that may be behind each first one, and each other one, whatever
// follows it.
func TestSecondByte(t *testing.T) {
	t.Parallel()
	for first := 8; first < 128; first += 16 {
		valid := seconds(first)
		if len(valid) < 3 || len(valid) > 6 {
			t.Fatalf("%d bytes behind %d", len(valid), first)
		}
		for v := range 256 {
			b := []byte{byte(first), byte(v)}
			what := fmt.Sprintf("first bytes %d, %d", first, v)
			if valid[v] {
				wantResult(t, what, b, far, result{nil, api.ErrEnd})
				wantResult(t, what, append(b, rest...), far, result{nil, api.ErrDone})
			} else {
				wantFailure(t, what, b, far, "", api.ErrForm)
			}
		}
	}
}

// P14.2: some first bytes, as they are written out.
func TestFirstBytes(t *testing.T) {
	for b, want := range map[string]api.Errno{
		"\x78\x01": api.ErrDone,
		"\x78\x5e": api.ErrDone,
		"\x78\x9c": api.ErrDone,
		"\x78\xda": api.ErrDone,
		"\x08\x1d": api.ErrDone,
		"\x08\x99": api.ErrDone,
		"\x18\x19": api.ErrDone,
		"\x78\x00": api.ErrForm, // not a multiple of 31
		"\x78\x9d": api.ErrForm,
		"\x78\x9b": api.ErrForm,
		"\x78\x1c": api.ErrForm,
		"\x78\x20": api.ErrForm, // a multiple of 31, with the bit 32
		"\x78\x3f": api.ErrForm,
		"\x78\x7d": api.ErrForm,
		"\x78\xbb": api.ErrForm,
		"\x78\xf9": api.ErrForm,
		"\x9c\x78": api.ErrForm, // the other order
		"\x77\x85": api.ErrForm, // multiples of 31 with a wrong first byte
		"\x79\x93": api.ErrForm,
		"\x88\x1c": api.ErrForm,
		"\xf8\x1f": api.ErrForm,
		"\x00\x00": api.ErrForm,
		"\x1f\x8b": api.ErrForm,
	} {
		wantResult(t, fmt.Sprintf("%x", b), []byte(b+rest), far, result{nil, want})
	}
}

// P14.2: the first byte alone, the second one alone, and what follows, with Take
// after each.
func TestFirstBytesAlone(t *testing.T) {
	for second := range 256 {
		d := zlib.NewDecoder(far)
		d.Feed([]byte{0x78})
		wantStays(t, d, api.ErrEnd)
		d.Feed(nil)
		wantStays(t, d, api.ErrEnd)
		d.Feed([]byte{byte(second)})
		if !seconds(0x78)[second] {
			wantStays(t, d, api.ErrForm)
			d.Feed([]byte(rest))
			wantStays(t, d, api.ErrForm)
			continue
		}
		wantStays(t, d, api.ErrEnd)
		d.Feed([]byte(rest))
		wantStays(t, d, api.ErrEnd)
		d.End()
		wantStays(t, d, api.ErrDone)
	}
}

// P14.2: the first two bytes have no other effect: the data behind them are the same.
func TestDataBehindAnyFirstBytes(t *testing.T) {
	data := "some data, some data, and some more"
	b := file(data)
	for first := 8; first < 128; first += 16 {
		for second := range seconds(first) {
			b[0], b[1] = byte(first), byte(second)
			wantResult(t, fmt.Sprintf("first bytes %d, %d", first, second), b, far, result{[]byte(data), api.ErrDone})
		}
	}
}
