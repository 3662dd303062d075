package gzip

import (
	"bytes"
	"slices"
	"strings"

	"concertina/api"
	"concertina/sums"
)

// begin is what every header begins with: the bytes 31, 139, 8.
const begin = "\x1f\x8b\x08"

// The flags of a header.
const (
	flagText = 1 << iota
	flagSum
	flagExtra
	flagName
	flagNote
	noFlag // neither this one nor a higher one may be set
)

// mostExtra is the greatest length of Extra that two bytes can tell.
const mostExtra = 1<<16 - 1

// PrintHeader returns the bytes of h.
func PrintHeader(h api.Header) ([]byte, api.Errno) {
	if !goodExtra(h) || !goodText(h.Name, h.HasName) || !goodText(h.Comment, h.HasNote) {
		return nil, api.ErrForm
	}
	b := append([]byte(begin), flags(h))
	b = appendNumber(b, h.Time, 4)
	b = append(b, h.Flags, h.System)
	if h.HasExtra {
		b = appendNumber(b, uint32(len(h.Extra)), 2)
		b = append(b, h.Extra...)
	}
	if h.HasName {
		b = append(append(b, h.Name...), 0)
	}
	if h.HasNote {
		b = append(append(b, h.Comment...), 0)
	}
	if h.Sum {
		b = appendNumber(b, sums.CRC(0, b), 2)
	}
	return b, api.OK
}

// goodExtra reports whether Extra may be printed.
func goodExtra(h api.Header) bool {
	return len(h.Extra) <= mostExtra && (h.HasExtra || len(h.Extra) == 0)
}

// goodText reports whether a text may be printed that should be there or not.
func goodText(s string, has bool) bool {
	return len(s) <= api.MaxValue && (has || s == "") && strings.IndexByte(s, 0) < 0
}

// flags returns the byte of flags.
func flags(h api.Header) byte {
	var v byte
	add := func(set bool, flag byte) {
		if set {
			v |= flag
		}
	}
	add(h.Text, flagText)
	add(h.Sum, flagSum)
	add(h.HasExtra, flagExtra)
	add(h.HasName, flagName)
	add(h.HasNote, flagNote)
	return v
}

// ParseHeader returns the header at the beginning of b, and its length.
func ParseHeader(b []byte) (h api.Header, n int, e api.Errno) {
	p := parser{all: b}
	p.begin()
	p.flags(&h)
	h.Time = p.number(4)
	h.Flags = byte(p.number(1))
	h.System = byte(p.number(1))
	if h.HasExtra {
		h.Extra = p.take(int(p.number(2)))
	}
	if h.HasName {
		h.Name = p.text()
	}
	if h.HasNote {
		h.Comment = p.text()
	}
	if h.Sum {
		p.sum()
	}
	if p.err != api.OK {
		return api.Header{}, 0, p.err
	}
	h.Extra = slices.Clone(h.Extra)
	return h, p.n, api.OK
}

// parser reads the parts of a header, one after the other. From its first error
// on all of them are zero values.
type parser struct {
	all []byte
	n   int // how many bytes were read
	err api.Errno
}

// fail notes an error, unless there is one already.
func (p *parser) fail(err api.Errno) {
	if p.err == api.OK {
		p.err = err
	}
}

// take reads n bytes.
func (p *parser) take(n int) []byte {
	if n > len(p.all)-p.n {
		p.fail(api.ErrEnd)
	}
	if p.err != api.OK {
		return nil
	}
	p.n += n
	return p.all[p.n-n : p.n]
}

// number reads a number of n bytes, the lowest one first.
func (p *parser) number(n int) uint32 {
	var v uint32
	for i, x := range p.take(n) {
		v |= uint32(x) << (8 * i)
	}
	return v
}

// begin reads what every header begins with, byte by byte: a wrong one is an error
// without those behind it.
func (p *parser) begin() {
	for i := range len(begin) {
		if p.number(1) != uint32(begin[i]) {
			p.fail(api.ErrForm)
		}
	}
}

// flags reads the byte of flags.
func (p *parser) flags(h *api.Header) {
	v := p.number(1)
	if v >= noFlag {
		p.fail(api.ErrForm)
		return
	}
	h.Text = v&flagText != 0
	h.Sum = v&flagSum != 0
	h.HasExtra = v&flagExtra != 0
	h.HasName = v&flagName != 0
	h.HasNote = v&flagNote != 0
}

// text reads a text and the byte 0 behind it.
func (p *parser) text() string {
	rest := p.all[p.n:]
	n := bytes.IndexByte(rest[:min(len(rest), api.MaxValue+1)], 0)
	switch {
	case n >= 0:
		s := string(p.take(n))
		p.take(1)
		return s
	case len(rest) > api.MaxValue:
		p.fail(api.ErrForm)
	default:
		p.fail(api.ErrEnd)
	}
	return ""
}

// sum reads the checksum of all that was read before.
func (p *parser) sum() {
	before := p.all[:p.n]
	v := p.number(2)
	if p.err == api.OK && v != sums.CRC(0, before)&0xffff {
		p.fail(api.ErrSum)
	}
}
