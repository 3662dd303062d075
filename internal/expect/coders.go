package expect

import (
	"bytes"
	"slices"
	"strconv"

	"concertina/api"
	"concertina/internal/sample"
)

// Encoder is what makes an output of written data.
type Encoder interface {
	Write(b []byte) api.Errno
	Close() api.Errno
	Take() []byte
}

// Write appends bytes to the data of an encoder.
func Write(t T, e Encoder, b []byte) {
	t.Helper()
	Err(t, "Write", e.Write(b), api.OK)
}

// Closed closes an encoder and returns what it has then.
func Closed(t T, e Encoder) []byte {
	t.Helper()
	Err(t, "Close", e.Close(), api.OK)
	return e.Take()
}

// Done looks whether nothing can be written or closed any more.
func Done(t T, e Encoder) {
	t.Helper()
	for _, b := range [][]byte{nil, []byte("more"), sample.Noise(50000)} {
		Err(t, "Write", e.Write(b), api.ErrDone)
	}
	Err(t, "Close", e.Close(), api.ErrDone)
}

// Encode writes data in parts of some sizes, of which the next ones are asked for
// again and again, and takes what there is before each one as often as times tells.
// It returns all of the output.
func Encode(t T, e Encoder, data []byte, size, times func() int) []byte {
	t.Helper()
	var all []byte
	for len(data) > 0 {
		for range times() {
			all = append(all, e.Take()...)
		}
		n := min(size(), len(data))
		Write(t, e, data[:n])
		data = data[n:]
	}
	return append(all, Closed(t, e)...)
}

// AfterClose writes data, takes what there is if early is true, and closes an encoder.
// It looks whether nothing can be written or closed any more, while what was not
// taken stays, and returns all of the output.
func AfterClose(t T, e Encoder, data []byte, early bool) []byte {
	t.Helper()
	var all []byte
	Write(t, e, data)
	if early {
		all = e.Take()
	}
	Err(t, "Close", e.Close(), api.OK)
	Done(t, e)
	Done(t, e)
	all = append(all, e.Take()...)
	Done(t, e)
	Bytes(t, "taken again", e.Take(), nil)
	return all
}

// NoEncoder looks whether an encoder is done from the beginning, without any output.
func NoEncoder(t T, e Encoder) {
	t.Helper()
	for range 2 {
		Done(t, e)
		Bytes(t, "output", e.Take(), nil)
	}
}

// Apart writes data in parts of one size, and looks whether no result is changed by a
// later call, and no later call by what happens to a result of the encoder or of
// another one that does the same. It returns all of the output.
func Apart(t T, e, other Encoder, data []byte, size int) []byte {
	t.Helper()
	var all []byte
	var results Results
	take := func() {
		b := e.Take()
		all = append(all, b...)
		results.Add(b)
		sample.Spoil(other.Take())
	}
	take()
	for part := range slices.Chunk(data, size) {
		Write(t, e, part)
		Write(t, other, part)
		take()
	}
	Err(t, "Close", e.Close(), api.OK)
	Err(t, "Close", other.Close(), api.OK)
	take()
	results.Check(t)
	Bytes(t, "taken again", e.Take(), nil)
	return all
}

// Taker is what has an output that is taken in parts.
type Taker interface {
	Take(n int) ([]byte, api.Errno)
}

// Take takes n bytes, and compares them and the error.
func Take(t T, d Taker, n int, want string, err api.Errno) {
	t.Helper()
	what := "Take(" + strconv.Itoa(n) + ")"
	b, got := d.Take(n)
	Bytes(t, what, b, []byte(want))
	Err(t, what, got, err)
}

// everything is more than any output of the tests has.
const everything = 1 << 40

// Stays looks whether an output stays as it is at its end.
func Stays(t T, d Taker, err api.Errno) {
	t.Helper()
	for _, n := range []int{0, -1} {
		Take(t, d, n, "", api.OK)
	}
	for _, n := range []int{1, everything} {
		Take(t, d, n, "", err)
	}
}

// All takes what there is, n bytes at once, and returns it with the error behind
// it.
func All(t T, d Taker, n int) ([]byte, api.Errno) {
	t.Helper()
	var all []byte
	for {
		b, err := d.Take(n)
		all = append(all, b...)
		if len(b) > n || (err == api.OK) != (len(b) == n) || len(b) > 0 && err != api.OK && err != api.ErrEnd {
			t.Errorf("Take(%d) after %d bytes: %d bytes, error %d", n, len(all)-len(b), len(b), err)
			return all, err
		}
		if len(b) == 0 {
			return all, err
		}
	}
}

// Feeder is what makes such an output of what it is fed.
type Feeder interface {
	Feed(b []byte)
	Taker
}

// Decode feeds b in parts of some sizes, of which the next ones are asked for again
// and again, and takes what there is behind each one, n bytes at once. Behind the
// last part last is called, before that. It returns all of the output, and the error
// behind it.
func Decode(t T, d Feeder, b []byte, next func() int, n int, last func()) (all []byte, err api.Errno) {
	t.Helper()
	for {
		size := min(next(), len(b))
		d.Feed(b[:size])
		b = b[size:]
		if len(b) == 0 {
			last()
		}
		out, err := All(t, d, n)
		all = append(all, out...)
		if len(b) == 0 {
			return all, err
		}
	}
}

// Lend passes b to a function in parts of one size, all in the same memory, which
// the function may not change, and which changes behind each of its calls.
func Lend(t T, b []byte, size int, use func(part []byte)) {
	t.Helper()
	const spare = "spare"
	memory := make([]byte, size+len(spare))
	for part := range slices.Chunk(b, size) {
		n := copy(memory, part)
		copy(memory[n:], spare)
		use(memory[:n])
		Bytes(t, "argument", memory[:n], part)
		Bytes(t, "spare capacity", memory[n:n+len(spare)], []byte(spare))
		sample.Spoil(memory)
	}
}

// Results are results of calls, and what they were at first.
type Results [][2][]byte

// Add adds a result.
func (r *Results) Add(b []byte) {
	*r = append(*r, [2][]byte{b, bytes.Clone(b)})
}

// Check looks whether the results are what they were at first, also when others of
// them were changed.
func (r Results) Check(t T) {
	t.Helper()
	for _, pair := range r {
		Bytes(t, "earlier result", pair[0], pair[1])
		sample.Spoil(pair[0])
	}
}
