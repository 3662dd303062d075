package zlib_test

import (
	"hash/adler32"

	"concertina/api"
	"concertina/inflate"
)

// result is what a file comes to: its output, and the error behind that, or ErrDone.
type result struct {
	out []byte
	err api.Errno
}

// read returns what a file comes to of which all these bytes were fed, and, if end
// is true, its end as well.
func read(b []byte, most int, end bool) result {
	if err := readHeader(b); err != api.OK {
		return result{nil, err}
	}
	out, rest, err := inflate.Whole(b[2:], most)
	if err == api.OK {
		err = readTail(rest, adler32.Checksum(out), end)
	}
	return result{out, err}
}

// readHeader returns the error of the first two bytes.
func readHeader(b []byte) api.Errno {
	switch {
	case len(b) == 0:
		return api.ErrEnd
	case b[0]%16 != 8 || b[0] >= 128:
		return api.ErrForm
	case len(b) == 1:
		return api.ErrEnd
	case (256*int(b[0])+int(b[1]))%31 != 0 || b[1]/32%2 == 1:
		return api.ErrForm
	}
	return api.OK
}

// readTail returns what stands behind a stream whose data have this checksum.
func readTail(b []byte, sum uint32, end bool) api.Errno {
	switch {
	case len(b) < 4:
		return api.ErrEnd
	case string(b[:4]) != big(sum):
		return api.ErrSum
	case len(b) > 4:
		return api.ErrForm
	case !end:
		return api.ErrEnd
	}
	return api.ErrDone
}
