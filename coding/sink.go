package coding

import "concertina/api"

// sink encodes the output of a pipe. Its zero value has no output.
type sink struct {
	encoder
	head   []byte // what is before the data: it comes with the first bytes of them
	inside int    // how many bytes of data the encoder may have without output
	late   int    // how many of them it may have when it just had output
	out    []byte // output that was not taken
}

// newSink returns a sink that encodes with a level.
func newSink(coding, level int) sink {
	s := sink{encoder: newEncoder(coding, level)}
	s.head = s.encoder.Take()
	if coding == api.Gzip || coding == api.Zlib {
		// A block ends as soon as its tokens are known. Behind it may be what was
		// written last, and what waited before that for its tokens.
		s.late = dataSize + api.MaxMatch + api.MinMatch
	}
	return s
}

// held returns how many bytes of the data and of the output wait.
func (s *sink) held() int {
	return s.inside + len(s.out)
}

// encode appends at most dataSize bytes of data.
func (s *sink) encode(b []byte) {
	s.encoder.Write(b)
	s.inside += len(b)
	if out := s.encoder.Take(); len(out) > 0 {
		s.out = append(s.head, out...)
		s.head = nil
		s.inside = s.late
	}
}

// finish ends the data.
func (s *sink) finish() {
	s.encoder.Close()
	*s = sink{out: append(s.head, s.encoder.Take()...)}
}
