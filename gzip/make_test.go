package gzip_test

import (
	"hash/crc32"
	"strings"

	"concertina/api"
	"concertina/deflate"
	"concertina/internal/sample"
)

// known is a header, with the bytes of which it consists.
type known struct {
	name string
	h    api.Header
	b    string
}

// zeroHeader are the bytes of a header without anything.
const zeroHeader = "\x1f\x8b\x08\x00\x00\x00\x00\x00\x00\x00"

// little returns the n lowest bytes of a number, the lowest one first.
func little(v uint32, n int) string {
	return string([]byte{byte(v), byte(v >> 8), byte(v >> 16), byte(v >> 24)}[:n])
}

// summed appends its checksum to the bytes of a header.
func summed(b string) string {
	return b + little(crc32.ChecksumIEEE([]byte(b)), 2)
}

// flagged returns a header with these of the five flags, and what there must be
// with them.
func flagged(flags byte, extra, name, comment string) known {
	h := api.Header{
		Text: flags&1 > 0, Sum: flags&2 > 0, HasExtra: flags&4 > 0, HasName: flags&8 > 0, HasNote: flags&16 > 0,
		Time: 0x01020304, Flags: 5, System: 6,
	}
	b := "\x1f\x8b\x08" + string([]byte{flags}) + "\x04\x03\x02\x01\x05\x06"
	if h.HasExtra {
		h.Extra = []byte(extra)
		b += little(uint32(len(extra)), 2) + extra
	}
	if h.HasName {
		h.Name = name
		b += name + "\x00"
	}
	if h.HasNote {
		h.Comment = comment
		b += comment + "\x00"
	}
	if h.Sum {
		b = summed(b)
	}
	return known{"", h, b}
}

// headers returns headers of every kind.
func headers() []known {
	list := []known{
		{"zero", api.Header{}, zeroHeader},
		{"text", api.Header{Text: true}, "\x1f\x8b\x08\x01\x00\x00\x00\x00\x00\x00"},
		{"sum", api.Header{Sum: true}, "\x1f\x8b\x08\x02\x00\x00\x00\x00\x00\x00\x1d\x26"},
		{"time", api.Header{Time: 0x01020304}, "\x1f\x8b\x08\x00\x04\x03\x02\x01\x00\x00"},
		{"late time", api.Header{Time: 0xfffefdfc}, "\x1f\x8b\x08\x00\xfc\xfd\xfe\xff\x00\x00"},
		{"flags", api.Header{Flags: 255}, "\x1f\x8b\x08\x00\x00\x00\x00\x00\xff\x00"},
		{"system", api.Header{System: 255}, "\x1f\x8b\x08\x00\x00\x00\x00\x00\x00\xff"},
		{"extra", api.Header{HasExtra: true, Extra: []byte("e\x00\xff")}, "\x1f\x8b\x08\x04\x00\x00\x00\x00\x00\x00\x03\x00e\x00\xff"},
		{"name", api.Header{HasName: true, Name: "name"}, "\x1f\x8b\x08\x08\x00\x00\x00\x00\x00\x00name\x00"},
		{"comment", api.Header{HasNote: true, Comment: "note"}, "\x1f\x8b\x08\x10\x00\x00\x00\x00\x00\x00note\x00"},
		{"all", everyField(), "\x1f\x8b\x08\x1f\x04\x03\x02\x01\x05\x06\x05\x00extraname\x00comment\x00\xf1\xc8"},
	}
	add := func(name string, x known) {
		list = append(list, known{name, x.h, x.b})
	}
	add("all but the sum", flagged(29, "extra", "name", "comment"))
	add("all empty", flagged(31, "", "", ""))
	add("empty extra", flagged(4, "", "", ""))
	add("empty name", flagged(8, "", "", ""))
	add("empty comment", flagged(16, "", "", ""))
	extra, long, any := string(sample.Noise(65535)), strings.Repeat("long", 1024), anyText()
	add("extra of 255 bytes", flagged(4, extra[:255], "", ""))
	add("extra of 256 bytes", flagged(4, extra[:256], "", ""))
	add("greatest extra", flagged(6, extra, "", ""))
	add("greatest name", flagged(8, "", long, ""))
	add("greatest comment", flagged(16, "", "", long))
	add("greatest of all", flagged(31, extra, long, strings.Repeat("\xff", 4096)))
	add("any bytes", flagged(31, "\x00"+any, any, any))
	return list
}

// everyField returns a header that has everything.
func everyField() api.Header {
	return api.Header{
		Text: true, Sum: true, Time: 0x01020304, Flags: 5, System: 6, Extra: []byte("extra"), HasExtra: true,
		Name: "name", Comment: "comment", HasName: true, HasNote: true,
	}
}

// anyText returns a text with all bytes that there may be.
func anyText() string {
	var b []byte
	for v := 1; v < 256; v++ {
		b = append(b, byte(v))
	}
	return string(b)
}

// totals returns what is behind the stream of these data.
func totals[T string | []byte](data T) string {
	return little(crc32.ChecksumIEEE([]byte(data)), 4) + little(uint32(len(data)), 4)
}

// member returns a member.
func member[T string | []byte](header string, data T) string {
	return header + string(deflate.Whole([]byte(data), 6)) + totals(data)
}

// plain returns a member without anything in its header.
func plain[T string | []byte](data T) []byte {
	return []byte(member(zeroHeader, data))
}

// file returns a file of several members with these data and headers, and what it
// comes to.
func file(kinds []known, data ...string) ([]byte, result) {
	var b []byte
	x := result{err: api.ErrDone}
	for i, text := range data {
		kind := kinds[i%len(kinds)]
		b = append(b, member(kind.b, text)...)
		x.out = append(x.out, text...)
		x.headers = append(x.headers, kind.h)
	}
	return b, x
}

// few returns a few small headers, in the order of the members of a file.
func few() []known {
	return []known{
		flagged(0, "", "", ""), flagged(31, "extra", "name", "comment"), flagged(8, "", "other name", ""),
		flagged(2, "", "", ""), flagged(20, "\x1f\x8b\x08", "", "note"),
	}
}
