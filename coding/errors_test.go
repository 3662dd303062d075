package coding_test

import (
	"bytes"
	"fmt"
	"math/rand"
	"slices"
	"strings"
	"testing"

	"concertina/api"
	"concertina/internal/sample"
)

// wantFailure looks whether a pipe tells an error, before End or after it, that nothing
// waits in it then, and that the error stays, whatever follows.
func wantFailure(t *testing.T, what string, p pair, b []byte, most int, err api.Errno) {
	t.Helper()
	what = fmt.Sprintf("%s, %v", what, p)
	for _, n := range []int{1, 3, 1000, everything} {
		for _, end := range []bool{false, true} {
			x := p.pipe(6, most)
			x.Feed(b)
			if end {
				x.End()
			}
			_, got := takeAll(t, x, n)
			wantErr(t, what, got, err)
			for range 2 {
				wantStays(t, x, err)
				if n := x.Held(); n != 0 {
					t.Errorf("%s: %d bytes wait", what, n)
				}
				x.Feed(nil)
				x.Feed([]byte{0})
				x.Feed(p.input(t, []byte("more")))
				x.End()
			}
		}
	}
}

// P15.3: the errors of the decoder, behind all, some or none of the output before them.
func TestPipeErrors(t *testing.T) {
	t.Parallel()
	for _, from := range packed {
		for what, x := range faults(t, from) {
			for _, to := range all {
				p := pair{from, to}
				if !p.unchanged() {
					wantFailure(t, what, p, x.b, faultLimit, x.err)
					wantFailure(t, what+", and more", p, append(bytes.Clone(x.b), sample.Noise(5000)...), faultLimit, x.err)
					wantPiped(t, p, x.b, 6, faultLimit)
				}
			}
		}
	}
}

// P15.3: too many bytes that were not encoded.
func TestPipeErrorsOfPlainData(t *testing.T) {
	t.Parallel()
	for _, from := range plain {
		for _, to := range all {
			p := pair{from, to}
			if p.unchanged() {
				continue
			}
			for _, most := range []int{-1, 0, 1, 5000} {
				b := sample.Noise(max(most, 0) + 1)
				wantFailure(t, "one byte", p, b, most, api.ErrCap)
				wantFailure(t, "many bytes", p, sample.Noise(50000), most, api.ErrCap)
				wantPiped(t, p, b, 6, most)
			}
		}
	}
}

// P15.3: if the input ends too early, that is an error after End, and the output never
// ends.
func TestPipesCutOff(t *testing.T) {
	t.Parallel()
	data := []byte("some data, some data")
	for _, from := range packed {
		b := encoded(t, from, 6, data)
		for _, to := range []int{api.Identity, api.Gzip, api.Zlib, -1} {
			p := pair{from, to}
			if p.unchanged() {
				continue
			}
			for i := range b {
				x := p.pipe(6, far)
				x.Feed(b[:i])
				before, err := takeAll(t, x, 2)
				wantErr(t, p.String(), err, api.ErrEnd)
				x.End()
				more, err := takeAll(t, x, 2)
				p.wantConverted(t, "cut off", result{append(before, more...), err}, result{encoded(t, to, 6, data), api.ErrEnd})
				x.Feed(b[i:])
				x.End()
				wantStays(t, x, api.ErrEnd)
				if n := x.Held(); n != 0 {
					t.Errorf("%v: %d bytes wait", p, n)
				}
			}
		}
	}
}

// P15.3: if only the end is missing, the output does not end before End.
func TestOnlyTheEndIsMissing(t *testing.T) {
	t.Parallel()
	data := strings.Repeat("data, ", 20000)
	for _, p := range conversions() {
		b := p.input(t, []byte(data))
		x := p.pipe(6, far)
		x.Feed(b)
		out, err := takeAll(t, x, 5000)
		wantErr(t, p.String(), err, api.ErrEnd)
		if whole(t, pair{p.to, -1}.pipe(0, far), out, true).err == api.ErrDone && isPacked(p.to) {
			t.Errorf("%v: an end before End", p)
		}
	}
}

// P15.3: an error far behind the beginning, where some of the output was taken; what was
// taken is the beginning of the right output.
func TestErrorsBehindMuch(t *testing.T) {
	t.Parallel()
	data := sample.Noise(200000)
	for _, p := range conversions() {
		if !isPacked(p.from) {
			continue
		}
		b := p.input(t, data)
		b[len(b)-4] ^= 1
		for _, n := range []int{100, 16384, everything} {
			got := inParts(t, p.pipe(6, far), b, always(3000), n, true)
			if len(got.out) < len(data)/2 {
				t.Errorf("%v: %d bytes", p, len(got.out))
			}
			p.wantConverted(t, "wrong checksum", got, result{encoded(t, p.to, 6, data), api.ErrSum})
		}
	}
}

// P15.3: with nothing to encode, all output before an error is there.
func TestAllDataBeforeAnError(t *testing.T) {
	for _, from := range packed {
		for what, x := range faults(t, from) {
			want := read(t, from, x.b, faultLimit, true)
			got := whole(t, pair{from, api.Identity}.pipe(6, faultLimit), x.b, true)
			wantSame(t, what, got, want)
		}
	}
}

// P15.3: any bytes, in any parts and with any limit, come to what the decoder says.
func TestPipesOfAnyBytes(t *testing.T) {
	t.Parallel()
	random := rand.New(rand.NewSource(3))
	seen := map[api.Errno]int{}
	list := slices.DeleteFunc(conversions(), func(p pair) bool { return !isPacked(p.from) })
	for i := range 8000 {
		p := list[i%len(list)]
		b := p.input(t, sample.Story(random.Intn(300)))
		for range random.Intn(3) {
			b[random.Intn(len(b))] ^= 1 << random.Intn(8)
		}
		switch random.Intn(8) {
		case 0:
			b = b[:random.Intn(len(b))]
		case 1:
			b = append(b, sample.Noise(random.Intn(6))...)
		}
		most := random.Intn(600)
		next := func() int { return random.Intn(2 + len(b)/2) }
		got := inParts(t, p.pipe(1, most), b, next, 1+random.Intn(100), i%2 == 0)
		p.wantConverted(t, fmt.Sprintf("%x", b), got, p.want(t, b, 1, most))
		seen[got.err]++
	}
	for _, err := range []api.Errno{api.ErrDone, api.ErrForm, api.ErrCode, api.ErrSum, api.ErrEnd, api.ErrCap} {
		if seen[err] < 100 {
			t.Errorf("error %d was there %d times", err, seen[err])
		}
	}
}
