package inflate_test

import (
	"bytes"
	"compress/flate"
	"fmt"
	"io"
	"math/rand"
	"slices"
	"testing"

	"concertina/api"
	"concertina/deflate"
	"concertina/inflate"
	"concertina/internal/sample"
)

// wantOutput compares the output of a stream as a whole and in parts.
func wantOutput(t *testing.T, what string, b, want []byte) {
	t.Helper()
	x := result{want, api.ErrDone, []byte(behind)}
	b = append(bytes.Clone(b), behind...)
	wantSame(t, what, whole(b, len(want)), x)
	wantSame(t, what+", in parts", inParts(t, b, len(want), always(100), 3000), x)
}

// P12.1, P12.3: what layer 11 writes is decoded to its data, at every level, with
// and without Flush.
func TestStreamsOfDeflate(t *testing.T) {
	for name, data := range sample.Inputs() {
		t.Run(name, func(t *testing.T) {
			t.Parallel()
			for level := range 10 {
				what := fmt.Sprint("level ", level)
				wantOutput(t, what, deflate.Whole(data, level), data)
				e := deflate.New(level)
				for part := range slices.Chunk(data, 20000) {
					e.Write(part)
					e.Flush()
				}
				e.Close()
				wantOutput(t, what+", flushed", e.Take(), data)
			}
		})
	}
}

// P12.1: after a Flush all data so far are available.
func TestFlushedData(t *testing.T) {
	data := sample.Story(40000)
	for level := range 10 {
		e := deflate.New(level)
		d := inflate.New(far)
		for part := range slices.Chunk(data, 777) {
			e.Write(part)
			e.Flush()
			d.Feed(e.Take())
			wantTake(t, d, everything, string(part), api.ErrEnd)
			wantTake(t, d, 1, "", api.ErrEnd)
		}
	}
}

// libraryStream returns a stream of the library.
func libraryStream(t *testing.T, data []byte, level int) []byte {
	t.Helper()
	var b bytes.Buffer
	w, err := flate.NewWriter(&b, level)
	if err != nil {
		t.Fatal(err)
	}
	for part := range slices.Chunk(data, 30000) {
		w.Write(part)
		w.Flush()
	}
	w.Close()
	return b.Bytes()
}

// P12.1: what another encoder writes is decoded to its data as well.
func TestStreamsOfTheLibrary(t *testing.T) {
	for name, data := range sample.Inputs() {
		for level := flate.HuffmanOnly; level <= 9; level++ {
			wantOutput(t, fmt.Sprintf("%s, level %d", name, level), libraryStream(t, data, level), data)
		}
	}
}

// P12.3: Whole is New, Feed, Take and Rest: with the output before an error too, and
// then without a rest.
func TestWhole(t *testing.T) {
	b := append(packed(inner, storedKind, storedText("abc"), last, fixedKind, literals("def"), fixedEnd), behind...)
	for i := range b {
		for _, most := range []int{-1, 0, 2, 3, 5, 6, 100} {
			d := inflate.New(most)
			d.Feed(b[:i])
			wantOut, wantErr := takeAll(t, d, 1000)
			wantRest := d.Rest()
			if wantErr == api.ErrDone {
				wantErr = api.OK
			}
			out, rest, err := inflate.Whole(b[:i], most)
			if !bytes.Equal(out, wantOut) || !bytes.Equal(rest, wantRest) || err != wantErr {
				t.Errorf("%d bytes, limit %d: %q, %q, %d instead of %q, %q, %d", i, most, out, rest, err, wantOut, wantRest, wantErr)
			}
			if err != api.OK && rest != nil {
				t.Errorf("%d bytes, limit %d: rest %q beside error %d", i, most, rest, err)
			}
		}
	}
	for _, b := range [][]byte{nil, {}} {
		wantSame(t, "no bytes", whole(b, far), result{nil, api.ErrEnd, nil})
	}
}

// wantAsRead compares what a stream comes to with what the test's own reading says,
// as a whole and in parts.
func wantAsRead(t *testing.T, random *rand.Rand, b []byte, most int) api.Errno {
	t.Helper()
	want := read(b, most)
	what := fmt.Sprintf("%d bytes %x, limit %d", len(b), b[:min(len(b), 60)], most)
	wantSame(t, what, whole(b, most), want)
	next := func() int { return random.Intn(2 + len(b)/2) }
	wantSame(t, what+", in parts", inParts(t, b, most, next, 1+random.Intn(1000)), want)
	return want.err
}

// P12.2: streams with wrong bits come to what the chapter says, whatever it is.
func TestStreamsWithWrongBits(t *testing.T) {
	t.Parallel()
	random := rand.New(rand.NewSource(1))
	kinds, _ := limitedStream()
	streams := [][]byte{
		kinds,
		deflate.Whole(sample.Story(400), 9),
		deflate.Whole(sample.Few(300, 3), 9),
		libraryStream(t, sample.Story(3000), 9),
		libraryStream(t, sample.Few(500, 20), flate.HuffmanOnly),
		packed(last, dynamicKind, head(fixedLits[:286], same(30, 0)[:1]), coded(fixedLits, 'a', 256)),
	}
	seen := map[api.Errno]int{}
	for i := range 12000 {
		b := bytes.Clone(streams[i%len(streams)])
		for range 1 + random.Intn(3) {
			b[random.Intn(min(len(b), 1+random.Intn(len(b))))] ^= 1 << random.Intn(8)
		}
		if random.Intn(3) == 0 {
			b = b[:random.Intn(len(b)+1)]
		}
		most := far
		if random.Intn(4) == 0 {
			most = random.Intn(500)
		}
		seen[wantAsRead(t, random, b, most)]++
	}
	for _, err := range []api.Errno{api.ErrDone, api.ErrForm, api.ErrCode, api.ErrCap, api.ErrEnd} {
		if seen[err] < 100 {
			t.Errorf("error %d was there %d times", err, seen[err])
		}
	}
}

// P12.2: so do any bytes.
func TestAnyBytes(t *testing.T) {
	t.Parallel()
	random := rand.New(rand.NewSource(2))
	for range 50000 {
		b := make([]byte, random.Intn(1+random.Intn(60)))
		random.Read(b)
		wantAsRead(t, random, b, random.Intn(1+random.Intn(1000)))
	}
}

// P12.2: streams with a wrong bit are read as the library reads them: whether they
// are complete, cut off or wrong, and what their output is.
func TestLibraryAgrees(t *testing.T) {
	t.Parallel()
	random := rand.New(rand.NewSource(3))
	stream := deflate.Whole(sample.Story(2000), 9)
	complete := 0
	for range 3000 {
		b := bytes.Clone(stream)
		b[random.Intn(len(b))] ^= 1 << random.Intn(8)
		x := whole(b, far)
		got, err := io.ReadAll(flate.NewReader(bytes.NewReader(b)))
		if (err == nil) != (x.err == api.ErrDone) || (err == io.ErrUnexpectedEOF) != (x.err == api.ErrEnd) {
			t.Errorf("error %d, and by the library %v", x.err, err)
		}
		if err == nil {
			complete++
			wantBytes(t, "output", x.out, got)
		}
	}
	if complete < 100 {
		t.Errorf("only %d streams are complete", complete)
	}
}
