package window_test

import (
	"bytes"
	"math"
	"math/rand"
	"testing"

	"concertina/api"
	"concertina/window"
)

// P7.2: the example of the chapter.
func TestExample(t *testing.T) {
	w := window.New()
	w.Add([]byte("ab"))
	wantCopy(t, w, 5, 2, []byte("ababa"))
}

// P7.2: bytes from dist positions before, which may be among those of the copy,
// are appended.
func TestCopy(t *testing.T) {
	for _, x := range []struct {
		before  string
		n, dist int
		want    string
	}{
		{"a", 1, 1, "a"},
		{"abc", 1, 1, "c"},
		{"abc", 1, 2, "b"},
		{"abc", 1, 3, "a"},
		{"abc", 2, 3, "ab"},
		{"abc", 3, 3, "abc"},
		{"abc", 2, 2, "bc"},
		{"abcdef", 3, 5, "bcd"},
		{"abc", 4, 3, "abca"},
		{"abc", 7, 3, "abcabca"},
		{"abc", 5, 2, "bcbcb"},
		{"abc", 5, 1, "ccccc"},
		{"\x00\xff", 3, 2, "\x00\xff\x00"},
	} {
		w := windowOf([]byte(x.before))
		wantCopy(t, w, x.n, x.dist, []byte(x.want))
		wantWindow(t, w, []byte(x.before+x.want))
	}
}

// P7.2: a copy repeats what earlier copies appended.
func TestCopyOfCopies(t *testing.T) {
	w := windowOf([]byte("ab"))
	wantCopy(t, w, 3, 2, []byte("aba"))
	wantCopy(t, w, 2, 5, []byte("ab"))
	w.Add([]byte("c"))
	wantCopy(t, w, 4, 4, []byte("aabc"))
	wantCopy(t, w, 12, 12, []byte("ababaabcaabc"))
	wantCopy(t, w, 1, 24, []byte("a"))
	wantWindow(t, w, []byte("ababaabcaabcababaabcaabca"))
}

// P7.2: every n at every near distance, and those about the greatest n.
func TestCopyOfEveryLength(t *testing.T) {
	b := pattern(600)
	for n := 1; n <= api.MaxMatch; n++ {
		for _, dist := range []int{1, 2, 3, 4, 5, 31, 32, n, n + 1, 257, 258, 259, 599, 600} {
			want := bytes.Repeat(b[600-dist:], n/dist+1)[:n]
			w := windowOf(b)
			wantCopy(t, w, n, dist, want)
			wantWindow(t, w, append(pattern(600), want...))
		}
	}
}

// P7.2: ErrArg for an n that is not from 1 to MaxMatch, whatever dist is.
func TestCopyOfNoLength(t *testing.T) {
	above := []int{api.MaxMatch + 1, api.MaxMatch + 2, 512, 1 << 16, 1<<32 + 1, math.MaxInt32, math.MaxInt - 1, math.MaxInt}
	for _, b := range [][]byte{nil, []byte("abc"), pattern(api.WindowSize)} {
		w := windowOf(b)
		for _, n := range append(above, belowOne...) {
			for _, dist := range []int{math.MinInt, -1, 0, 1, 3, 4, api.WindowSize, api.WindowSize + 1, math.MaxInt} {
				wantError(t, w, n, dist, api.ErrArg)
			}
		}
	}
}

// P7.2: ErrCode for a dist below 1 or above Len.
func TestCopyOfNoDistance(t *testing.T) {
	for _, have := range []int{0, 1, 2, 3, 257, 258, 300, api.WindowSize - 1, api.WindowSize, api.WindowSize + 300} {
		b := pattern(have)
		w := windowOf(b)
		above := []int{w.Len() + 1, w.Len() + 2, api.WindowSize + 1, api.WindowSize + 2, 1 << 16, 1<<32 + 1, math.MaxInt32, math.MaxInt - 1, math.MaxInt}
		for _, dist := range append(above, belowOne...) {
			for _, n := range []int{1, 3, api.MaxMatch} {
				wantError(t, w, n, dist, api.ErrCode)
			}
		}
	}
}

// P7.2: every distance up to Len is one, and none above it, as a window fills.
func TestCopyAtTheFirstByte(t *testing.T) {
	b := pattern(1000)
	for have := 1; have <= len(b); have += 7 {
		w := windowOf(b[:have])
		wantError(t, w, 1, have+1, api.ErrCode)
		wantCopy(t, w, 1, have, b[:1])
		wantCopy(t, w, 1, have+1, b[:1])
		wantError(t, w, 1, have+3, api.ErrCode)
	}
}

// P7.2: an error leaves later calls as they would have been.
func TestCopyAfterErrors(t *testing.T) {
	w := windowOf([]byte("ab"))
	wantError(t, w, 5, 3, api.ErrCode)
	wantError(t, w, 0, 2, api.ErrArg)
	wantCopy(t, w, 5, 2, []byte("ababa"))
	wantError(t, w, 5, 8, api.ErrCode)
	wantError(t, w, api.MaxMatch+1, 7, api.ErrArg)
	wantCopy(t, w, 3, 7, []byte("aba"))
	wantWindow(t, w, []byte("abababaaba"))
}

// P7.2: a copy in a full window, from its earliest bytes on, pushes them out.
func TestCopyInFullWindow(t *testing.T) {
	const size = api.WindowSize
	for _, more := range []int{0, 1, 257, 258, 1000, size} {
		all := pattern(size + more)
		for _, dist := range []int{1, 2, 257, 258, 259, size - 258, size - 257, size - 1, size} {
			for _, n := range []int{1, 2, 3, 257, api.MaxMatch} {
				w := windowOf(all)
				want := bytes.Repeat(all[len(all)-dist:], n/dist+1)[:n]
				wantCopy(t, w, n, dist, want)
				wantWindow(t, w, append(all[more+n:len(all):len(all)], want...))
			}
		}
	}
}

// P7.2: a copy that makes a window full pushes out what is too much.
func TestCopyFillsWindow(t *testing.T) {
	const size = api.WindowSize
	for _, missing := range []int{0, 1, 2, 100, 257, 258, 259} {
		all := pattern(size - missing)
		w := windowOf(all)
		wantCopy(t, w, api.MaxMatch, len(all), all[:api.MaxMatch])
		all = append(all, all[:api.MaxMatch]...)
		wantWindow(t, w, all[max(len(all)-size, 0):])
		wantError(t, w, 1, min(len(all), size)+1, api.ErrCode)
	}
}

// P7.2: a nil window has ErrArg, whatever the arguments are.
func TestCopyInNilWindow(t *testing.T) {
	var w *window.Window
	w.Add([]byte("abc"))
	for _, n := range append([]int{1, 3, api.MaxMatch, api.MaxMatch + 1, math.MaxInt}, belowOne...) {
		for _, dist := range []int{math.MinInt, -1, 0, 1, 3, math.MaxInt} {
			wantError(t, w, n, dist, api.ErrArg)
		}
	}
}

// model is all bytes that were ever added or copied.
type model []byte

// window returns the last bytes.
func (m model) window() []byte {
	return m[max(len(m)-api.WindowSize, 0):]
}

// copied returns what the promise tells of Copy, byte by byte.
func (m *model) copied(n, dist int) ([]byte, api.Errno) {
	if n < 1 || n > api.MaxMatch {
		return nil, api.ErrArg
	}
	if dist < 1 || dist > len(m.window()) {
		return nil, api.ErrCode
	}
	for range n {
		*m = append(*m, (*m)[len(*m)-dist])
	}
	return (*m)[len(*m)-n:], api.OK
}

// someDist returns a distance, near, far, or about the length of the window.
func someDist(random *rand.Rand, length int) int {
	switch random.Intn(4) {
	case 0:
		return random.Intn(8)
	case 1:
		return length + 2 - random.Intn(5)
	default:
		return random.Intn(length + 2)
	}
}

// P7.1 and P7.2: any order of calls does what it does to a list of all bytes.
func TestWindowAsModel(t *testing.T) {
	random := rand.New(rand.NewSource(1))
	for range 40 {
		w, m := window.New(), model{}
		for range 1000 {
			switch random.Intn(6) {
			case 0, 1:
				b := make([]byte, random.Intn(1+[]int{1, 8, 800}[random.Intn(3)]))
				random.Read(b)
				w.Add(b)
				m = append(m, b...)
			case 2:
				n := random.Intn(w.Len()+8) - 4
				kept := m.window()
				wantBytes(t, "Last", w.Last(n), kept[len(kept)-min(max(n, 0), len(kept)):])
			default:
				n, dist := random.Intn(api.MaxMatch+4)-1, someDist(random, w.Len())
				want, err := m.copied(n, dist)
				if err == api.OK {
					wantCopy(t, w, n, dist, want)
				} else {
					wantError(t, w, n, dist, err)
				}
			}
			if w.Len() != len(m.window()) {
				t.Fatalf("Len: %d instead of %d", w.Len(), len(m.window()))
			}
		}
		wantWindow(t, w, m.window())
	}
}
