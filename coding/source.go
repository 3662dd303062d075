package coding

import "concertina/api"

// source decodes the input of a pipe. Its zero value has ended.
type source struct {
	decoder
	in     []byte // what was fed and not passed on to the decoder
	passed int    // of the part that was passed on, how many bytes may not be read yet
	closed bool   // whether nothing more is fed
}

// newSource returns a source that decodes at most most bytes of data.
func newSource(coding, most int) source {
	return source{decoder: newDecoder(coding, most)}
}

// ended tells whether nothing more can be decoded.
func (s *source) ended() bool {
	return s.decoder == nil
}

// add appends the next part of the input.
func (s *source) add(b []byte) {
	if s.closed || s.ended() {
		return
	}
	s.in = append(s.in, b...)
}

// held returns how many bytes of the input wait.
func (s *source) held() int {
	return len(s.in) + s.passed
}

// decode returns the next bytes of the data, at most n and at least one; or none and
// what Take of a decoder returns then.
func (s *source) decode(n int) ([]byte, api.Errno) {
	for {
		if s.closed && len(s.in) == 0 {
			s.decoder.End()
		}
		b, err := s.decoder.Take(n)
		if err != api.OK {
			// It would have returned more if it had not read everything.
			s.passed = 0
		}
		if len(b) > 0 || err != api.ErrEnd || len(s.in) == 0 {
			return b, err
		}
		// Only now, so that the decoder never has more than it reads next.
		part := cut(&s.in, inSize)
		s.passed = len(part)
		s.decoder.Feed(part)
	}
}
