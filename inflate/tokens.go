package inflate

import (
	"concertina/api"
	"concertina/block"
	"concertina/table"
	"concertina/token"
)

// codes are the first and the second code of a block.
type codes struct {
	lit, dist *table.Table
}

// newCodes returns the codes with these lengths.
func newCodes(lit, dist []int) (codes, api.Errno) {
	first, err := table.Build(lit, api.MaxBits)
	if err != api.OK {
		return codes{}, err
	}
	second, err := table.Build(dist, api.MaxBits)
	if err != api.OK {
		return codes{}, err
	}
	return codes{first, second}, api.OK
}

// fixedCodes returns the fixed codes. They are made once, since a stream may
// have many such blocks of a few bits.
func (d *Decoder) fixedCodes() codes {
	if d.fixed.lit == nil {
		// These lengths are those of complete codes.
		d.fixed, _ = newCodes(block.FixedLengths())
	}
	return d.fixed
}

// readToken reads a literal, a match or the end of the block.
func (d *Decoder) readToken() api.Errno {
	symbol, err := d.block.codes.lit.Next(&d.in)
	switch {
	case err != api.OK:
		return err
	case symbol == api.EndBlock:
		return d.endBlock()
	case symbol > api.EndBlock:
		return d.readMatch(symbol)
	}
	if _, err := d.out.share(1); err != api.OK {
		return err
	}
	d.out.add([]byte{byte(symbol)})
	return api.OK
}

// readMatch reads what follows the symbol of a length.
func (d *Decoder) readMatch(symbol int) api.Errno {
	n, err := d.readNumber(token.LenBase(symbol))
	if err != api.OK {
		return err
	}
	symbol, err = d.block.codes.dist.Next(&d.in)
	if err != api.OK {
		return err
	}
	dist, err := d.readNumber(token.DistBase(symbol))
	if err != api.OK {
		return err
	}
	// The window has the whole output, or as much as the greatest distance.
	if dist > d.out.window.Len() {
		return api.ErrCode
	}
	d.block.left, d.block.dist = n, dist
	d.state = matchBytes
	return api.OK
}

// readNumber reads the extra bits of a code with this first value, if there is
// such a code, and returns the number for which they stand.
func (d *Decoder) readNumber(base, extra int, ok bool) (int, api.Errno) {
	if !ok {
		return 0, api.ErrCode
	}
	v, ok := d.in.Get(extra)
	if !ok {
		return 0, api.ErrEnd
	}
	return base + int(v), api.OK
}

// copyMatch puts out bytes of a match.
func (d *Decoder) copyMatch() api.Errno {
	if d.block.left == 0 {
		d.state = blockToken
		return api.OK
	}
	n, err := d.out.share(d.block.left)
	if err != api.OK {
		return err
	}
	d.out.repeat(n, d.block.dist)
	d.block.left -= n
	return api.OK
}
