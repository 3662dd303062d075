package coding_test

import (
	"fmt"
	"math/rand"
	"slices"
	"testing"

	"concertina/api"
	"concertina/coding"
	"concertina/inflate"
	"concertina/internal/sample"
)

// metered is a pipe, with what was fed and taken so far.
type metered struct {
	*coding.Pipe
	pair
	fed, taken int
}

// meter returns a pipe to which nothing was fed.
func (p pair) meter(level, most int) *metered {
	return &metered{Pipe: p.pipe(level, most), pair: p}
}

// check looks whether as many bytes wait as may.
func (m *metered) check(t *testing.T, when string) {
	t.Helper()
	n := m.Held()
	if n < 0 || n > m.fed+4*api.BlockSize {
		t.Errorf("%v, %s: of %d bytes %d wait", m.pair, when, m.fed, n)
	}
	if m.unchanged() && n != m.fed-m.taken {
		t.Errorf("%v, %s: of %d bytes %d were taken, and %d wait", m.pair, when, m.fed, m.taken, n)
	}
	if m.Held() != n {
		t.Errorf("%v, %s: %d bytes wait, and then %d", m.pair, when, n, m.Held())
	}
}

// feed feeds bytes.
func (m *metered) feed(t *testing.T, b []byte) {
	t.Helper()
	before := m.Held()
	m.Feed(b)
	m.fed += len(b)
	m.check(t, "fed")
	if n := m.Held() - before; n != len(b) {
		t.Errorf("%v: %d more bytes wait after %d were fed", m.pair, n, len(b))
	}
}

// end marks the end.
func (m *metered) end(t *testing.T) {
	t.Helper()
	before := m.Held()
	m.End()
	m.check(t, "at the end")
	if n := m.Held(); n != before {
		t.Errorf("%v: %d bytes wait before End, %d after it", m.pair, before, n)
	}
}

// take takes at most n bytes.
func (m *metered) take(t *testing.T, n int) ([]byte, api.Errno) {
	t.Helper()
	b, err := m.Take(n)
	m.taken += len(b)
	m.check(t, fmt.Sprintf("Take(%d)", n))
	return b, err
}

// drain takes all that there is, n bytes at once, up to the end. Nothing waits there.
func (m *metered) drain(t *testing.T, n int) {
	t.Helper()
	for {
		if out, err := m.take(t, n); len(out) == 0 {
			wantErr(t, m.String(), err, api.ErrDone)
			break
		}
	}
	m.wantHeld(t, 0)
}

// wantHeld compares the number of bytes that wait.
func (m *metered) wantHeld(t *testing.T, want int) {
	t.Helper()
	if n := m.Held(); n != want {
		t.Errorf("%v: of %d bytes %d were taken, and %d wait instead of %d", m.pair, m.fed, m.taken, n, want)
	}
}

// P15.3: before anything was fed, nothing waits, and at the end nothing does; what was
// fed waits until something is taken.
func TestHeld(t *testing.T) {
	t.Parallel()
	for _, p := range pairs() {
		for _, data := range [][]byte{nil, []byte("a"), []byte("some data"), sample.Story(50000)} {
			m := p.meter(6, len(data))
			m.wantHeld(t, 0)
			m.take(t, 100)
			m.wantHeld(t, 0)
			b := p.input(t, data)
			m.feed(t, nil)
			m.feed(t, b)
			m.take(t, 0)
			m.take(t, -1)
			m.wantHeld(t, len(b))
			m.end(t)
			m.wantHeld(t, len(b))
			m.Feed([]byte("fed behind the end"))
			m.wantHeld(t, len(b))
			m.drain(t, 1000)
			m.Feed([]byte("fed behind the end"))
			m.End()
			m.wantHeld(t, 0)
		}
	}
}

// P15.3: for unchanged bytes, exactly those that were fed and not taken wait; so for data
// that are not encoded yet.
func TestHeldOfPlainData(t *testing.T) {
	data := sample.Noise(10000)
	for _, p := range []pair{{0, 0}, {1, 1}, {2, 2}, {3, 3}, {1, 3}, {3, 2}, {0, 3}, {3, 0}, {0, -1}, {4, 0}, {4, 5}, {7, 7}} {
		m := p.meter(6, len(data))
		for part := range slices.Chunk(data, 1700) {
			m.feed(t, part)
			for _, n := range []int{0, 1, 2, 511, 512, 513, 600} {
				m.take(t, n)
			}
			if p.unchanged() {
				m.wantHeld(t, m.fed-m.taken)
			}
		}
		for len(data) > m.taken {
			m.take(t, 333)
		}
		m.wantHeld(t, 0)
		m.end(t)
		m.take(t, 1)
		m.wantHeld(t, 0)
	}
	for _, to := range packed {
		m := pair{api.Identity, to}.meter(6, len(data))
		for range 10 {
			m.feed(t, data[:1000])
			m.take(t, 1000)
			m.wantHeld(t, m.fed)
		}
	}
}

// P15.3: at most the number of fed bytes and 4 BlockSize wait, in any parts, as long as
// at most BlockSize bytes are taken at once.
func TestHeldInParts(t *testing.T) {
	t.Parallel()
	random := rand.New(rand.NewSource(4))
	inputs := [][]byte{sample.Story(90000), sample.Noise(60000), make([]byte, 200000), slices.Concat(sample.Noise(5000), make([]byte, 90000), sample.Noise(30000))}
	for _, data := range inputs {
		for _, p := range pairs() {
			b := p.input(t, data)
			for _, level := range []int{0, 6} {
				m := p.meter(level, far)
				most := 1 << (5 + random.Intn(12))
				for len(b) > m.fed {
					m.feed(t, b[m.fed:min(len(b), m.fed+random.Intn(most))])
					for range random.Intn(4) {
						m.take(t, random.Intn(api.BlockSize+1))
					}
				}
				m.end(t)
				for {
					if out, _ := m.take(t, 1+random.Intn(api.BlockSize)); len(out) == 0 {
						break
					}
				}
				m.wantHeld(t, 0)
			}
		}
	}
}

// P15.3: so they do where a small input gives a large output.
func TestHeldOfALargeOutput(t *testing.T) {
	t.Parallel()
	zeros := make([]byte, 1<<22)
	for _, from := range packed {
		for _, to := range named {
			p := pair{from, to}
			if p.unchanged() {
				continue
			}
			b := p.input(t, zeros)
			if len(b) > 20000 {
				t.Fatalf("%v: the input has %d bytes", p, len(b))
			}
			for _, n := range []int{1000, api.BlockSize - 1, api.BlockSize} {
				m := p.meter(0, far)
				m.feed(t, b)
				m.end(t)
				m.drain(t, n)
				if m.taken < len(zeros) {
					t.Errorf("%v: %d bytes", p, m.taken)
				}
			}
		}
	}
}

// P15.3: what waits before the encoder has output is at least what the output lacks, and
// not much more.
func TestHeldInTheEncoder(t *testing.T) {
	t.Parallel()
	for _, data := range [][]byte{sample.Story(300000), sample.Noise(150000), make([]byte, 300000)} {
		for _, to := range packed {
			for _, level := range []int{0, 1, 6, 9} {
				m := pair{api.Identity, to}.meter(level, far)
				d := inflate.New(far)
				begin := 10
				if to == api.Zlib {
					begin = 2
				}
				out := 0
				for part := range slices.Chunk(data, 777) {
					m.feed(t, part)
					b, _ := m.take(t, api.BlockSize)
					n := min(begin, len(b))
					begin -= n
					d.Feed(b[n:])
					b, _ = takeAll(t, d, 1<<20)
					out += len(b)
					lacks := m.fed - out
					if n := m.Held(); n < lacks || n > lacks+2000 {
						t.Fatalf("%v, level %d: of %d bytes %d came, and %d wait", m.pair, level, m.fed, out, n)
					}
				}
			}
		}
	}
}

// P15.3: bytes that the decoder has read and that gave data do not wait.
func TestHeldOfReadBytes(t *testing.T) {
	t.Parallel()
	data := sample.Noise(100000)
	for _, from := range packed {
		p := pair{from, api.Identity}
		b := p.input(t, data)
		m := p.meter(6, far)
		for part := range slices.Chunk(b, 4000) {
			m.feed(t, part)
			for {
				if out, _ := m.take(t, 5000); len(out) == 0 {
					break
				}
			}
			m.wantHeld(t, 0)
		}
	}
}

// P15.3: bytes that the decoder has not read wait, whether it has them already or not.
func TestHeldOfUnreadBytes(t *testing.T) {
	t.Parallel()
	data := sample.Noise(100000)
	for _, from := range packed {
		// The bytes of the data themselves, and a few more for each block.
		b := encoded(t, from, 0, data)
		m := pair{from, api.Identity}.meter(6, far)
		m.feed(t, b)
		for m.taken < len(data) {
			m.take(t, 100)
			unread := len(data) - m.taken
			if n := m.Held(); n < unread || n > unread+2000 {
				t.Errorf("%d bytes wait where %d were not read", n, unread)
			}
		}
	}
	for _, from := range packed {
		// So few bytes that the decoder has all of them, and reads only some.
		b := encoded(t, from, 9, make([]byte, len(data)))
		for _, n := range []int{256, 1000, 1024} {
			m := pair{from, api.Identity}.meter(6, far)
			m.feed(t, b)
			for m.taken < len(data)/2 {
				m.take(t, n)
				if n := m.Held(); n < len(b)/2 {
					t.Errorf("%d of %d bytes wait after %d bytes of data", n, len(b), m.taken)
				}
			}
		}
	}
}

// P15.3: blocks without data, of which there are many, do not wait when they were read.
func TestHeldOfInputWithoutData(t *testing.T) {
	m := pair{api.Gzip, api.Zlib}.meter(6, far)
	m.feed(t, []byte(zeroHeader))
	for range 1000 {
		m.feed(t, slices.Repeat([]byte("\x00\x00\x00\xff\xff"), 100))
		m.take(t, 100)
		m.wantHeld(t, 0)
	}
}

// P15.3: many bytes may be taken at once, too; then nothing else waits.
func TestHeldAfterMuchIsTaken(t *testing.T) {
	t.Parallel()
	data := sample.Story(500000)
	for _, p := range conversions() {
		b := p.input(t, data)
		for _, n := range []int{api.BlockSize + 1, 100000, everything} {
			m := p.meter(6, far)
			m.feed(t, b)
			m.end(t)
			m.drain(t, n)
		}
	}
}
