package bits_test

import (
	"bytes"
	"math/rand"
	"testing"

	"concertina/bits"
)

// model is a stream as a plain list of bits, a bool each, with the number of
// bits that were removed at its beginning.
type model struct {
	list []bool
	gone int
}

func (m *model) add(v uint64, n int) {
	for i := range n {
		m.list = append(m.list, v>>i&1 == 1)
	}
}

func (m *model) addBytes(b []byte) {
	for _, x := range b {
		m.add(uint64(x), 8)
	}
}

// pad appends zeros up to a boundary of all bits that were ever there.
func (m *model) pad() {
	for (m.gone+len(m.list))%8 != 0 {
		m.add(0, 1)
	}
}

func (m *model) number(n int) (uint32, bool) {
	if n < 0 || n > 32 || n > len(m.list) {
		return 0, false
	}
	v := uint32(0)
	for i, set := range m.list[:n] {
		if set {
			v |= 1 << i
		}
	}
	return v, true
}

func (m *model) remove(n int) {
	m.list = m.list[n:]
	m.gone += n
}

// cut removes bits up to a boundary of all bits that were ever there.
func (m *model) cut() {
	for m.gone%8 != 0 {
		m.remove(1)
	}
}

func (m *model) bytes(most int) []byte {
	var out []byte
	for len(m.list) >= 8 && len(out) < most {
		v, _ := m.number(8)
		out = append(out, byte(v))
		m.remove(8)
	}
	return out
}

// some returns up to n bytes.
func some(random *rand.Rand, n int) []byte {
	b := make([]byte, random.Intn(n+1))
	for i := range b {
		b[i] = byte(random.Intn(256))
	}
	return b
}

// P1.1: any order of calls of a writer does what it does to a list of bits.
func TestWriterAsModel(t *testing.T) {
	random := rand.New(rand.NewSource(1))
	for round := range 300 {
		w, m := bits.NewWriter(), &model{}
		for range 200 {
			switch random.Intn(8) {
			case 0:
				w.Align()
				m.pad()
			case 1:
				b := some(random, 5)
				w.Write(b)
				m.pad()
				m.addBytes(b)
			case 2:
				if got, want := w.Take(), m.bytes(1<<30); !bytes.Equal(got, want) {
					t.Fatalf("round %d, Take: %x instead of %x", round, got, want)
				}
			default:
				v, n := random.Uint32(), random.Intn(37)-2
				w.Put(v, n)
				if n >= 0 && n <= 32 {
					m.add(uint64(v), n)
				}
			}
			if w.Bits() != len(m.list) {
				t.Fatalf("round %d, Bits: %d instead of %d", round, w.Bits(), len(m.list))
			}
		}
	}
}

// sameNumber calls Peek and Get for n bits of both.
func sameNumber(t *testing.T, r *bits.Reader, m *model, n int) {
	t.Helper()
	want, wantOK := m.number(n)
	if v, ok := r.Peek(n); v != want || ok != wantOK {
		t.Fatalf("Peek(%d): %x %v instead of %x %v", n, v, ok, want, wantOK)
	}
	if v, ok := r.Get(n); v != want || ok != wantOK {
		t.Fatalf("Get(%d): %x %v instead of %x %v", n, v, ok, want, wantOK)
	}
	if wantOK {
		m.remove(n)
	}
}

// P1.2: any order of calls of a reader does what it does to a list of bits.
func TestReaderAsModel(t *testing.T) {
	random := rand.New(rand.NewSource(2))
	for round := range 300 {
		r, m := bits.NewReader(), &model{}
		for range 200 {
			switch random.Intn(9) {
			case 0:
				r.Align()
				m.cut()
			case 1:
				n := random.Intn(8) - 2
				m.cut()
				if got, want := r.Read(n), m.bytes(n); !bytes.Equal(got, want) {
					t.Fatalf("round %d, Read(%d): %x instead of %x", round, n, got, want)
				}
			case 2, 3:
				b := some(random, 9)
				r.Feed(b)
				m.addBytes(b)
			case 4:
				n := random.Intn(33)
				want, wantOK := m.number(n)
				if v, ok := r.Peek(n); v != want || ok != wantOK {
					t.Fatalf("round %d, Peek(%d): %x %v instead of %x %v", round, n, v, ok, want, wantOK)
				}
			default:
				sameNumber(t, r, m, random.Intn(37)-2)
			}
			if r.Left() != len(m.list) {
				t.Fatalf("round %d, Left: %d instead of %d", round, r.Left(), len(m.list))
			}
		}
	}
}

// P1.1 and P1.2: what a writer put, a reader gets, in whatever parts.
func TestWriterToReader(t *testing.T) {
	random := rand.New(rand.NewSource(3))
	w, r := bits.NewWriter(), bits.NewReader()
	var values []uint32
	var counts []int
	for range 5000 {
		n := random.Intn(33)
		v := random.Uint32() & uint32(1<<n-1)
		values, counts = append(values, v), append(counts, n)
		w.Put(v, n)
		if random.Intn(3) == 0 {
			r.Feed(w.Take())
		}
	}
	w.Align()
	r.Feed(w.Take())
	for i, n := range counts {
		wantBits(t, "Get", r.Get, n, values[i], true)
	}
	if r.Left() >= 8 {
		t.Errorf("Left: %d", r.Left())
	}
}
