package gzip_test

import (
	"bytes"
	"fmt"
	"strings"
	"testing"

	"concertina/api"
	"concertina/gzip"
	"concertina/internal/sample"
)

// wantPrinted compares the bytes of a header.
func wantPrinted(t *testing.T, what string, h api.Header, want string) {
	t.Helper()
	b, err := gzip.PrintHeader(h)
	wantErr(t, what, err, api.OK)
	wantBytes(t, what, b, []byte(want))
}

// P13.1: the bytes of headers of every kind.
func TestPrintHeader(t *testing.T) {
	for _, x := range headers() {
		wantPrinted(t, x.name, x.h, x.b)
	}
}

// P13.1: each flag is there alone, and with each of the others.
func TestPrintFlags(t *testing.T) {
	for flags := range byte(32) {
		x := flagged(flags, "extra", "name", "comment")
		wantPrinted(t, fmt.Sprint("flags ", flags), x.h, x.b)
		x = flagged(flags, "", "", "")
		wantPrinted(t, fmt.Sprint("empty, flags ", flags), x.h, x.b)
	}
}

// R4: no Extra is the same as an empty one.
func TestPrintEmptyExtra(t *testing.T) {
	for _, extra := range [][]byte{nil, {}, make([]byte, 0, 10)} {
		wantPrinted(t, "without Extra", api.Header{Extra: extra}, zeroHeader)
		wantPrinted(t, "with Extra", api.Header{Extra: extra, HasExtra: true}, "\x1f\x8b\x08\x04\x00\x00\x00\x00\x00\x00\x00\x00")
	}
}

// badHeaders returns headers that may not be, by what is wrong.
func badHeaders() map[string]api.Header {
	long := strings.Repeat("n", 4096)
	list := map[string]api.Header{
		"extra of 65536 bytes":   {HasExtra: true, Extra: make([]byte, 65536)},
		"extra of 65537 bytes":   {HasExtra: true, Extra: make([]byte, 65537)},
		"extra of many bytes":    {HasExtra: true, Extra: make([]byte, 1<<20)},
		"extra without its flag": {Extra: []byte("e")},
		"a zero without a flag":  {Extra: []byte{0}},
		"long extra, no flag":    {Extra: make([]byte, 65536)},
		"name without its flag":  {Name: "n"},
		"name, comment's flag":   {Name: "n", HasNote: true, HasExtra: true},
		"comment without flag":   {Comment: "n"},
		"comment, name's flag":   {Comment: "n", HasName: true, HasExtra: true},
		"extra, others' flags":   {Extra: []byte("e"), HasName: true, HasNote: true},
		"longest, no flag":       {Name: long},
		"all without flags":      {Extra: []byte("e"), Name: "n", Comment: "c"},
		"only the last is wrong": {Extra: []byte("e"), HasExtra: true, Name: "n", HasName: true, Comment: "c"},
	}
	for i, s := range []string{"\x00", "a\x00", "\x00a", "a\x00b", long[1:] + "\x00", long + "n", long + "\x00", long + long} {
		what := fmt.Sprintf("text %d, %d bytes %.10q", i, len(s), s)
		list["name of "+what] = api.Header{Name: s, HasName: true}
		list["comment of "+what] = api.Header{Comment: s, HasNote: true}
		list["name and more of "+what] = api.Header{Name: s, HasName: true, Comment: "c", HasNote: true, Sum: true}
		list["comment and more of "+what] = api.Header{Comment: s, HasNote: true, Name: "n", HasName: true, Sum: true}
	}
	return list
}

// P13.1: what may not be: too many bytes of Extra, Name or Comment, a byte 0 in a
// text, and what is there without its flag.
func TestPrintErrors(t *testing.T) {
	for what, h := range badHeaders() {
		b, err := gzip.PrintHeader(h)
		wantErr(t, what, err, api.ErrForm)
		if b != nil {
			t.Errorf("%s: %q beside an error", what, short(b))
		}
	}
}

// P13.1: a header that is printed is parsed as itself, whatever follows it.
func TestPrintedHeadersAreParsed(t *testing.T) {
	kinds := headers()
	for flags := range byte(32) {
		kinds = append(kinds, flagged(flags, "\x00extra\x00", "\xff", anyText()))
	}
	for _, x := range kinds {
		b, err := gzip.PrintHeader(x.h)
		wantErr(t, x.name, err, api.OK)
		for _, more := range []string{"", "\x00", "more", "\x00\x00\x00\x00\x00\x00", x.b, strings.Repeat("\xff", 70000)} {
			wantParsed(t, x.name, append(bytes.Clone(b), more...), x.h, len(b))
		}
	}
}

// R4: the header isn't changed, and its bytes are other memory.
func TestPrintKeepsItsArgument(t *testing.T) {
	array := append(sample.Noise(100), "spare"...)
	want := bytes.Clone(array)
	x := flagged(6, string(array[:100]), "", "")
	x.h.Extra = array[:100]
	one, _ := gzip.PrintHeader(x.h)
	other, _ := gzip.PrintHeader(x.h)
	wantBytes(t, "argument", array, want)
	spoil(array)
	spoil(other)
	wantBytes(t, "result", one, []byte(x.b))
}
