package expect_test

import (
	"fmt"
	"slices"
	"strings"
	"testing"

	"concertina/api"
	"concertina/internal/expect"
	"concertina/internal/sample"
)

// supply is an output with an error behind it.
type supply struct {
	b   []byte
	err api.Errno
}

func (s *supply) Take(n int) ([]byte, api.Errno) {
	n = max(n, 0)
	b := s.b[:min(n, len(s.b))]
	s.b = s.b[len(b):]
	switch {
	case len(b) == n:
		return b, api.OK
	case len(b) > 0:
		return b, api.ErrEnd
	}
	return nil, s.err
}

// What is taken is as it should be, and has no message.
func TestTakeTheSame(t *testing.T) {
	var n notes
	s := &supply{[]byte("abcdef"), api.ErrSum}
	expect.Take(&n, s, 2, "ab", api.OK)
	expect.Take(&n, s, 0, "", api.OK)
	expect.Take(&n, s, 5, "cdef", api.ErrEnd)
	expect.Take(&n, s, 5, "", api.ErrSum)
	expect.Stays(&n, s, api.ErrSum)
	for size := range 8 {
		s := &supply{[]byte("abcdef"), api.ErrSum}
		b, err := expect.All(&n, s, size)
		if size == 0 {
			expect.Err(&n, "nothing", err, api.OK)
			continue
		}
		expect.Bytes(&n, "all", b, []byte("abcdef"))
		expect.Err(&n, "all", err, api.ErrSum)
	}
	wantNotes(t, n)
}

// What is taken is not as it should be.
func TestTakeNotTheSame(t *testing.T) {
	var n notes
	expect.Take(&n, &supply{[]byte("abc"), api.ErrSum}, 2, "ac", api.ErrEnd)
	wantNotes(t, n, `Take(2): 2 bytes "ab" instead of 2 bytes "ac"`, "Take(2): error 0 instead of 5")
	n = nil
	expect.Stays(&n, &supply{[]byte("a"), api.ErrSum}, api.ErrSum)
	wantNotes(t, n, `Take(1): 1 bytes "a" instead of 0 bytes ""`, "Take(1): error 0 instead of 4")
	n = nil
	expect.Stays(&n, &supply{nil, api.ErrSum}, api.ErrDone)
	wantNotes(t, n, "Take(1): error 4 instead of 8", "Take(1099511627776): error 4 instead of 8")
}

// wrong are the bytes and the error of each call, whatever is asked for.
type wrong supply

func (w wrong) Take(n int) ([]byte, api.Errno) {
	return w.b, w.err
}

// Too many bytes, another error than OK with all that were asked for, OK with fewer,
// and the error behind the bytes beside them.
func TestAllOfWhatIsWrong(t *testing.T) {
	for _, w := range []wrong{{[]byte("abc"), api.OK}, {[]byte("ab"), api.ErrEnd}, {[]byte("a"), api.OK}, {[]byte("a"), api.ErrDone}, {nil, api.OK}} {
		var n notes
		expect.All(&n, w, 2)
		wantNotes(t, n, fmt.Sprintf("Take(2) after 0 bytes: %d bytes, error %d", len(w.b), w.err))
	}
}

// store is an encoder that changes nothing, and a decoder with an error behind its
// output.
type store struct {
	supply
	closed bool
}

func (s *store) Write(b []byte) api.Errno {
	if s.closed {
		return api.ErrDone
	}
	s.Feed(b)
	return api.OK
}

func (s *store) Close() api.Errno {
	err := s.Write(nil)
	s.closed = true
	return err
}

func (s *store) Feed(b []byte) {
	s.b = append(s.b, b...)
}

// encoder is a store as an encoder.
type encoder struct{ store }

func (e *encoder) Take() []byte {
	b := e.b
	e.b = nil
	return b
}

// The calls of an encoder, and what they have no message for.
func TestEncoder(t *testing.T) {
	var n notes
	e := new(encoder)
	expect.Write(&n, e, []byte("abc"))
	expect.Write(&n, e, []byte("def"))
	expect.Bytes(&n, "output", expect.Closed(&n, e), []byte("abcdef"))
	expect.Done(&n, e)
	wantNotes(t, n)
	expect.Write(&n, e, nil)
	expect.Closed(&n, e)
	wantNotes(t, n, "Write: error 8 instead of 0", "Close: error 8 instead of 0")
	n = nil
	expect.Done(&n, new(encoder))
	wantNotes(t, n, "Write: error 0 instead of 8", "Write: error 0 instead of 8", "Write: error 0 instead of 8", "Close: error 0 instead of 8")
}

// A closed encoder keeps its output, but takes no more data.
func TestAfterClose(t *testing.T) {
	var n notes
	for _, early := range []bool{false, true} {
		b := expect.AfterClose(&n, new(encoder), []byte("abc"), early)
		expect.Bytes(&n, "output", b, []byte("abc"))
	}
	wantNotes(t, n)
	expect.AfterClose(&n, &endless{}, nil, false)
	want := append(notes{}, slices.Repeat([]string{"Write: error 0 instead of 8", "Write: error 0 instead of 8", "Write: error 0 instead of 8", "Close: error 0 instead of 8"}, 3)...)
	wantNotes(t, n, append(want, `taken again: 1 bytes "x" instead of 0 bytes ""`)...)
}

// endless is an encoder that is never done.
type endless struct{}

func (endless) Write(b []byte) api.Errno { return api.OK }
func (endless) Close() api.Errno         { return api.OK }
func (endless) Take() []byte             { return []byte("x") }

// An encoder that is done has neither room nor output.
func TestNoEncoder(t *testing.T) {
	var n notes
	expect.NoEncoder(&n, &encoder{store{closed: true}})
	wantNotes(t, n)
	expect.NoEncoder(&n, &encoder{store{closed: true, supply: supply{b: []byte("abc")}}})
	wantNotes(t, n, `output: 3 bytes "abc" instead of 0 bytes ""`)
}

// sharing is an encoder whose results are the same memory.
type sharing struct {
	encoder
	memory *[1]byte
}

func (s *sharing) Take() []byte {
	b := s.memory[:0]
	return append(b, s.encoder.Take()...)
}

// Results of encoders share no memory, neither with each other nor with those of
// other encoders.
func TestApart(t *testing.T) {
	var n notes
	b := expect.Apart(&n, new(encoder), new(encoder), []byte("abcdef"), 4)
	expect.Bytes(&n, "output", b, []byte("abcdef"))
	wantNotes(t, n)
	one, two := new([1]byte), new([1]byte)
	for _, other := range []*[1]byte{one, two} {
		expect.Apart(&n, &sharing{memory: one}, &sharing{memory: other}, []byte("ab"), 1)
		if len(n) == 0 || !strings.HasPrefix(n[0], "earlier result: 1 bytes") {
			t.Errorf("%q", n)
		}
		n = nil
	}
	expect.Apart(&n, new(encoder), &sharing{memory: one}, []byte("ab"), 1)
	wantNotes(t, n)
	expect.Apart(&n, &endless{}, new(encoder), nil, 1)
	wantNotes(t, n, `taken again: 1 bytes "x" instead of 0 bytes ""`)
}

// All parts are written, of the sizes that are asked for, and all output is taken.
func TestEncode(t *testing.T) {
	for size := 1; size < 8; size++ {
		for times := range 3 {
			parts := 0
			next := func() int {
				parts++
				return size
			}
			b := expect.Encode(t, new(encoder), []byte("abcdef"), next, sample.Always(times))
			expect.Bytes(t, "output", b, []byte("abcdef"))
			if want := (6 + size - 1) / size; parts != want {
				t.Errorf("%d parts of %d bytes", parts, size)
			}
		}
	}
	var n notes
	expect.Encode(&n, &encoder{store{closed: true}}, []byte("abc"), sample.Always(2), sample.Always(0))
	wantNotes(t, n, "Write: error 8 instead of 0", "Write: error 8 instead of 0", "Close: error 8 instead of 0")
}

// All parts are fed, of the sizes that are asked for, and all output is taken, with
// last behind the last part.
func TestDecode(t *testing.T) {
	for _, text := range []string{"", "a", "abcdef"} {
		for size := 1; size < 8; size++ {
			s := &store{supply: supply{err: api.ErrEnd}}
			b, err := expect.Decode(t, s, []byte(text), sample.Always(size), 2, func() {
				if s.err != api.ErrEnd {
					t.Error("the end again")
				}
				s.err = api.ErrDone
			})
			expect.Bytes(t, "output", b, []byte(text))
			expect.Err(t, "end", err, api.ErrDone)
		}
	}
}

// What is lent may be read, but neither changed nor kept.
func TestLend(t *testing.T) {
	var n notes
	var parts []string
	expect.Lend(&n, []byte("abcdefgh"), 3, func(part []byte) { parts = append(parts, string(part)) })
	if fmt.Sprint(parts) != "[abc def gh]" {
		t.Errorf("%q", parts)
	}
	wantNotes(t, n)
	expect.Lend(&n, []byte("ab"), 3, func(part []byte) { part[1] = 'x' })
	expect.Lend(&n, []byte("ab"), 3, func(part []byte) { _ = append(part, 'x') })
	wantNotes(t, n, `argument: 2 bytes "ax" instead of 2 bytes "ab"`, `spare capacity: 5 bytes "xpare" instead of 5 bytes "spare"`)
	var kept []byte
	expect.Lend(t, []byte("abc"), 3, func(part []byte) { kept = part })
	for i, b := range kept {
		if b == "abc"[i] {
			t.Errorf("byte %d is the same", i)
		}
	}
}

// Results that change, by themselves or with others, have a message.
func TestResults(t *testing.T) {
	var n notes
	var good, changed, shared expect.Results
	for _, text := range []string{"abc", "", "def"} {
		good.Add([]byte(text))
	}
	good.Check(&n)
	wantNotes(t, n)
	b := []byte("abc")
	changed.Add(b)
	b[0] = 'x'
	changed.Check(&n)
	wantNotes(t, n, `earlier result: 3 bytes "xbc" instead of 3 bytes "abc"`)
	b = []byte("abc")
	shared.Add(b[:1:2])
	shared.Add(b[2:])
	shared.Check(t)
	shared = nil
	b = []byte("abc")
	shared.Add(b[:1:2])
	shared.Add(b[1:])
	n = nil
	shared.Check(&n)
	if len(n) != 1 || !strings.HasPrefix(n[0], "earlier result: 2 bytes") {
		t.Errorf("%q", n)
	}
}
