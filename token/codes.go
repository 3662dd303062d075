package token

import "concertina/api"

const (
	firstLenCode = api.EndBlock + 1
	lastLenCode  = api.LitCodes - 1

	lenGroup  = 4 // length codes with the same number of extra bits
	distGroup = 2 // distance codes with the same number of extra bits
)

// isLength tells whether n is the length of a match.
func isLength(n int) bool {
	return n >= api.MinMatch && n <= api.MaxMatch
}

// isDistance tells whether d is the distance of a match.
func isDistance(d int) bool {
	return d >= 1 && d <= api.WindowSize
}

// LenCode returns the code of a length, the number of its extra bits, and
// their value. All are 0 if there is no such length.
func LenCode(n int) (code, extra, value int) {
	if !isLength(n) {
		return 0, 0, 0
	}
	return find(n, firstLenCode, api.LitCodes, LenBase)
}

// LenBase returns the first length of a code and the number of its extra bits.
func LenBase(code int) (base, extra int, ok bool) {
	if code < firstLenCode || code > lastLenCode {
		return 0, 0, false
	}
	if code == lastLenCode {
		// It takes the greatest length from the code before, and has it alone.
		return api.MaxMatch, 0, true
	}
	base, extra = start(code-firstLenCode, lenGroup)
	return api.MinMatch + base, extra, true
}

// DistCode returns the code of a distance, the number of its extra bits, and
// their value. All are 0 if there is no such distance.
func DistCode(d int) (code, extra, value int) {
	if !isDistance(d) {
		return 0, 0, 0
	}
	return find(d, 0, api.DistCodes, DistBase)
}

// DistBase returns the first distance of a code and the number of its extra
// bits.
func DistBase(code int) (base, extra int, ok bool) {
	if code < 0 || code >= api.DistCodes {
		return 0, 0, false
	}
	base, extra = start(code, distGroup)
	return 1 + base, extra, true
}

// start returns the first value of a code and the number of its extra bits, if
// codes and values count from 0 on. Codes come in groups of the same size; the
// first two groups have no extra bits, and each later one has one more than the
// one before. So a group stands for as many values as all before it together.
func start(code, group int) (base, extra int) {
	if code < group {
		return code, 0
	}
	extra = code/group - 1
	return (group + code%group) << extra, extra
}

// find returns the code of a value, and its extra bits. It is the last code, of
// those from low to below high, whose first value is not above the value.
func find(v, low, high int, baseOf func(code int) (base, extra int, ok bool)) (code, extra, value int) {
	for high-low > 1 {
		middle := (low + high) / 2
		if base, _, _ := baseOf(middle); base <= v {
			low = middle
		} else {
			high = middle
		}
	}
	base, extra, _ := baseOf(low)
	return low, extra, v - base
}
