package window_test

import (
	"math"
	"runtime"
	"slices"
	"testing"

	"concertina/api"
	"concertina/window"
)

// P7.1: a new window is empty.
func TestNew(t *testing.T) {
	w := window.New()
	if w == nil {
		t.Fatal("no window")
	}
	wantWindow(t, w, nil)
	wantBytes(t, "Last", w.Last(1), nil)
	wantBytes(t, "Last", w.Last(0), nil)
	wantBytes(t, "Last", w.Last(-1), nil)
}

// P7.1: bytes are appended behind those that are there.
func TestAdd(t *testing.T) {
	w := window.New()
	for _, x := range []struct{ b, want string }{
		{"ab", "ab"},
		{"c", "abc"},
		{"", "abc"},
		{"\x00\xff\x00", "abc\x00\xff\x00"},
		{"abc", "abc\x00\xff\x00abc"},
	} {
		w.Add([]byte(x.b))
		wantWindow(t, w, []byte(x.want))
	}
}

// P7.1: no bytes change nothing, neither in an empty window nor in a full one.
func TestAddOfNothing(t *testing.T) {
	full := pattern(api.WindowSize)
	for _, b := range [][]byte{nil, {}, full[:0], full[5:5]} {
		for _, before := range [][]byte{nil, []byte("a"), full} {
			w := windowOf(before)
			w.Add(b)
			wantWindow(t, w, before)
		}
	}
}

// P7.1: bytes up to the size of the window stay, and of more the last ones,
// if they are added at once.
func TestAddAtOnce(t *testing.T) {
	const size = api.WindowSize
	for _, n := range []int{1, 2, size - 1, size, size + 1, size + 2, 2*size - 1, 2 * size, 2*size + 1, 5*size + 77} {
		b := pattern(n)
		wantWindow(t, windowOf(b), b[max(n-size, 0):])
	}
}

// P7.1: what is added pushes out the earliest bytes, as many as are too many.
func TestAddPushesOut(t *testing.T) {
	const size = api.WindowSize
	for _, first := range []int{1, 1000, size - 1, size, size + 1} {
		for _, second := range []int{1, 2, 999, size - 1000, size - 1, size, size + 1, 3 * size} {
			all := pattern(first + second)
			w := windowOf(all[:first])
			w.Add(all[first:])
			wantWindow(t, w, all[max(len(all)-size, 0):])
		}
	}
}

// P7.1: the same bytes in parts of any size are the same window.
func TestAddInParts(t *testing.T) {
	const size = api.WindowSize
	all := pattern(3*size + 100)
	for _, part := range []int{1, 2, 3, 7, 258, 1000, size - 1, size, size + 1, 2 * size} {
		w := window.New()
		for b := range slices.Chunk(all, part) {
			w.Add(b)
		}
		wantWindow(t, w, all[len(all)-size:])
	}
}

// P7.1: Len is the number of bytes, at most the size of the window.
func TestLen(t *testing.T) {
	w := window.New()
	for n := range api.WindowSize + 600 {
		if want := min(n, api.WindowSize); w.Len() != want {
			t.Fatalf("Len after %d bytes: %d instead of %d", n, w.Len(), want)
		}
		w.Add([]byte{byte(n)})
	}
}

// P7.1: Last returns the last n bytes, and all if there are fewer.
func TestLast(t *testing.T) {
	for _, have := range []int{0, 1, 2, 300, api.WindowSize - 1, api.WindowSize, api.WindowSize + 5} {
		b := pattern(have)
		w := windowOf(b)
		kept := b[max(have-api.WindowSize, 0):]
		for _, n := range []int{1, 2, 3, 257, len(kept) - 1, len(kept), len(kept) + 1, api.WindowSize, api.WindowSize + 1, math.MaxInt32, math.MaxInt - 1, math.MaxInt} {
			wantBytes(t, "Last", w.Last(n), kept[len(kept)-min(max(n, 0), len(kept)):])
		}
		wantWindow(t, w, kept)
	}
}

// P7.1: no bytes if n is below 1.
func TestLastOfNone(t *testing.T) {
	for _, b := range [][]byte{nil, []byte("ab"), pattern(api.WindowSize)} {
		w := windowOf(b)
		for _, n := range belowOne {
			if got := w.Last(n); len(got) != 0 {
				t.Errorf("Last(%d): %d bytes", n, len(got))
			}
		}
		wantWindow(t, w, b)
	}
}

// P7.2: a nil window has nothing.
func TestNilWindow(t *testing.T) {
	var w *window.Window
	w.Add(nil)
	w.Add([]byte("abc"))
	w.Add(pattern(api.WindowSize + 1))
	if w.Len() != 0 {
		t.Errorf("Len: %d", w.Len())
	}
	for _, n := range append([]int{1, 2, math.MaxInt}, belowOne...) {
		if got := w.Last(n); got != nil {
			t.Errorf("Last(%d): %q", n, got)
		}
	}
}

// R1: a window that New did not make is an empty one.
func TestZeroWindow(t *testing.T) {
	w := new(window.Window)
	wantWindow(t, w, nil)
	wantError(t, w, 1, 1, api.ErrCode)
	wantError(t, w, 0, 1, api.ErrArg)
	w.Add([]byte("ab"))
	wantCopy(t, w, 3, 2, []byte("aba"))
	wantWindow(t, w, []byte("ababa"))
}

// R4: what is added isn't changed, with its spare capacity, and isn't kept.
func TestAddKeepsNoArgument(t *testing.T) {
	for _, n := range []int{4, api.WindowSize, api.WindowSize + 4} {
		array := append(pattern(n), "spare"...)
		w := windowOf(array[:n])
		w.Add([]byte("xyz"))
		w.Copy(api.MaxMatch, 1)
		wantBytes(t, "argument", array, append(pattern(n), "spare"...))
		before := w.Last(math.MaxInt)
		clear(array)
		wantWindow(t, w, before)
	}
}

// R4: what is returned is new memory, also its spare capacity.
func TestResultsAreNewMemory(t *testing.T) {
	for _, b := range [][]byte{pattern(500), pattern(api.WindowSize)} {
		w := windowOf(b)
		copied, _ := w.Copy(20, 9)
		again, _ := w.Copy(20, 20)
		last, other := w.Last(300), w.Last(300)
		want, wantOther := w.Last(math.MaxInt), slices.Clone(other)
		for _, list := range [][]byte{copied, last} {
			list = list[:cap(list)]
			for i := range list {
				list[i] ^= 0x55
			}
		}
		wantWindow(t, w, want)
		wantBytes(t, "another Last", other, wantOther)
		wantBytes(t, "another Copy", again, wantOther[280:])
		w.Add(pattern(100))
		w.Copy(100, 250)
		wantBytes(t, "another Last", other, wantOther)
		wantBytes(t, "another Copy", again, wantOther[280:])
	}
}

// R5: windows know nothing of each other, and Len and Last change nothing.
func TestWindowsAreApart(t *testing.T) {
	a, b := window.New(), window.New()
	a.Add([]byte("ab"))
	b.Add([]byte("xyz"))
	wantCopy(t, a, 3, 2, []byte("aba"))
	wantCopy(t, b, 4, 3, []byte("xyzx"))
	for range 3 {
		wantWindow(t, a, []byte("ababa"))
		wantWindow(t, b, []byte("xyzxyzx"))
		wantBytes(t, "Last", a.Last(2), []byte("ba"))
		wantBytes(t, "Last", b.Last(1), []byte("x"))
	}
}

// memory returns the number of bytes that are in use.
func memory() int {
	var stats runtime.MemStats
	runtime.GC()
	runtime.ReadMemStats(&stats)
	return int(stats.HeapAlloc)
}

// P7.1: of many bytes no more than the last ones stay in memory, whether they
// came at once, in parts or by copies.
func TestOldBytesAreNotKept(t *testing.T) {
	const total, most = 1 << 24, 1 << 19
	at, parts, copies := window.New(), window.New(), windowOf([]byte("a"))
	before := memory()
	at.Add(make([]byte, total))
	for range total >> 12 {
		parts.Add(make([]byte, 1<<12))
	}
	for range total >> 8 {
		copies.Copy(1<<8, 1)
	}
	if used := memory() - before; used > most {
		t.Errorf("%d bytes are in use", used)
	}
	for _, w := range []*window.Window{at, parts, copies} {
		if w.Len() != api.WindowSize {
			t.Errorf("Len: %d", w.Len())
		}
	}
}
