package gzip_test

import (
	"hash/crc32"

	"concertina/api"
	"concertina/inflate"
)

// result is what a file comes to: its output, the error behind that, or ErrDone,
// and the headers that were read.
type result struct {
	out     []byte
	err     api.Errno
	headers []api.Header
}

// reading reads a file as the chapter tells it, byte by byte, and ends with a panic
// of what is behind the output.
type reading struct {
	b    []byte
	at   int
	most int
	result
}

// read returns what a file comes to of which all these bytes were fed, and, if end
// is true, its end as well.
func read(b []byte, most int, end bool) (x result) {
	r := &reading{b: b, most: max(most, 0)}
	defer func() {
		x = r.result
		x.err = recover().(api.Errno)
	}()
	for {
		r.member()
		check(r.at < len(b) || !end, api.ErrDone)
	}
}

// readHeader returns the header at the beginning of b, its length, and OK, or an
// error alone.
func readHeader(b []byte) (h api.Header, n int, err api.Errno) {
	r := &reading{b: b}
	defer func() {
		if e := recover(); e != nil {
			h, n, err = api.Header{}, 0, e.(api.Errno)
		}
	}()
	h = r.header()
	return h, r.at, api.OK
}

// check ends the reading with an error if something isn't as it must be.
func check(good bool, err api.Errno) {
	if !good {
		panic(err)
	}
}

// next returns the next byte.
func (r *reading) next() byte {
	check(r.at < len(r.b), api.ErrEnd)
	r.at++
	return r.b[r.at-1]
}

// number returns the next number, of n bytes.
func (r *reading) number(n int) uint32 {
	v, unit := uint32(0), uint32(1)
	for range n {
		v += uint32(r.next()) * unit
		unit *= 256
	}
	return v
}

// text returns the next text.
func (r *reading) text() string {
	var b []byte
	for {
		v := r.next()
		if v == 0 {
			return string(b)
		}
		b = append(b, v)
		check(len(b) <= 4096, api.ErrForm)
	}
}

// header reads a header.
func (r *reading) header() (h api.Header) {
	start := r.at
	check(r.next() == 31, api.ErrForm)
	check(r.next() == 139, api.ErrForm)
	check(r.next() == 8, api.ErrForm)
	flags := r.next()
	check(flags/32 == 0, api.ErrForm)
	h.Text, h.Sum = flags%2 == 1, flags/2%2 == 1
	h.HasExtra, h.HasName, h.HasNote = flags/4%2 == 1, flags/8%2 == 1, flags/16 == 1
	h.Time = r.number(4)
	h.Flags, h.System = r.next(), r.next()
	if h.HasExtra {
		for range r.number(2) {
			h.Extra = append(h.Extra, r.next())
		}
	}
	if h.HasName {
		h.Name = r.text()
	}
	if h.HasNote {
		h.Comment = r.text()
	}
	if h.Sum {
		sum := crc32.ChecksumIEEE(r.b[start:r.at]) % 65536
		check(r.number(2) == sum, api.ErrSum)
	}
	return h
}

// member reads a member.
func (r *reading) member() {
	r.headers = append(r.headers, r.header())
	out, rest, err := inflate.Whole(r.b[r.at:], r.most-len(r.out))
	r.out = append(r.out, out...)
	check(err == api.OK, err)
	r.at = len(r.b) - len(rest)
	sum, size := r.number(4), r.number(4)
	check(sum == crc32.ChecksumIEEE(out) && size == uint32(len(out)), api.ErrSum)
}
