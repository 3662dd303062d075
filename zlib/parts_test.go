package zlib_test

import (
	"fmt"
	"math/rand"
	"slices"
	"testing"

	"concertina/api"
	"concertina/internal/sample"
)

// P14.2: a file divided at each place, or at two, with all that is available taken
// there.
func TestFewParts(t *testing.T) {
	t.Parallel()
	data := []byte("first, and last")
	b := file(data)
	want := result{data, api.ErrDone}
	for i := range len(b) + 1 {
		for j := range len(b) + 1 - i {
			for _, n := range []int{1, 4, everything} {
				sizes := []int{i, j}
				next := func() int {
					if len(sizes) == 0 {
						return len(b)
					}
					size := sizes[0]
					sizes = sizes[1:]
					return size
				}
				what := fmt.Sprintf("parts of %d, %d bytes, %d bytes at once", i, j, n)
				wantSame(t, what, inParts(t, b, far, next, n, (i+j)%2 == 0), want)
			}
		}
	}
}

// P14.2: parts of random sizes, some of them empty, and output in any sizes.
func TestRandomParts(t *testing.T) {
	t.Parallel()
	random := rand.New(rand.NewSource(14))
	for name, data := range map[string][]byte{
		"nothing": nil,
		"small":   []byte("some data"),
		"large":   slices.Concat(sample.Story(60000), make([]byte, 50000), sample.Noise(20000)),
	} {
		for level := range levels {
			b := encoded(t, level, data)
			most := 1 << random.Intn(16)
			next := func() int { return random.Intn(2 + random.Intn(most)) }
			got := inParts(t, b, far, next, 1+random.Intn(most), level%2 == 0)
			wantSame(t, fmt.Sprintf("%s, parts below %d", name, most), got, result{data, api.ErrDone})
		}
	}
}

// P14.2: files with wrong bytes come to what the chapter says, whatever that is.
func TestFilesWithWrongBytes(t *testing.T) {
	t.Parallel()
	random := rand.New(rand.NewSource(1))
	files := [][]byte{file(""), file("abc"), file("some data and more"), encoded(t, 0, []byte("abc")), file(sample.Story(3000)), file(sample.Few(500, 3))}
	seen := map[api.Errno]int{}
	for i := range 12000 {
		b := append([]byte(nil), files[i%len(files)]...)
		for range random.Intn(3) {
			b[random.Intn(len(b))] ^= 1 << random.Intn(8)
		}
		switch random.Intn(8) {
		case 0, 1:
			b = b[:random.Intn(len(b)+1)]
		case 2:
			b = append(b, sample.Noise(random.Intn(6))...)
		}
		most := far
		if random.Intn(4) == 0 {
			most = random.Intn(40)
		}
		seen[wantAsRead(t, random, b, most)]++
	}
	for _, err := range []api.Errno{api.ErrDone, api.ErrForm, api.ErrCode, api.ErrSum, api.ErrEnd, api.ErrCap} {
		if seen[err] < 100 {
			t.Errorf("error %d was there %d times", err, seen[err])
		}
	}
}

// P14.2: so do any few bytes, with right first ones or without.
func TestAnyBytes(t *testing.T) {
	t.Parallel()
	random := rand.New(rand.NewSource(2))
	for i := range 10000 {
		b := make([]byte, random.Intn(30))
		random.Read(b)
		if i%4 > 0 {
			b = append([]byte(begin), b...)
		}
		wantAsRead(t, random, b, random.Intn(100))
	}
}

// wantAsRead compares what a file comes to with what the test's own reading says, as
// a whole and in parts.
func wantAsRead(t *testing.T, random *rand.Rand, b []byte, most int) api.Errno {
	t.Helper()
	want := read(b, most, true)
	what := fmt.Sprintf("%d bytes %x, limit %d", len(b), b[:min(len(b), 100)], most)
	wantSame(t, what, whole(b, most, true), want)
	wantSame(t, what+", without the end", whole(b, most, false), read(b, most, false))
	next := func() int { return random.Intn(2 + len(b)/2) }
	wantSame(t, what+", in parts", inParts(t, b, most, next, 1+random.Intn(1000), random.Intn(2) == 0), want)
	return want.err
}
