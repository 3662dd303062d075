package coding_test

import (
	"bytes"
	"fmt"
	"math"
	"math/rand"
	"slices"
	"testing"

	"concertina/api"
	"concertina/coding"
	"concertina/internal/sample"
)

// wantPiped compares what a pipe makes of bytes, as a whole and in parts.
func wantPiped(t *testing.T, p pair, b []byte, level, most int) {
	t.Helper()
	what := fmt.Sprintf("level %d, limit %d, %d bytes", level, most, len(b))
	want := p.want(t, b, level, most)
	p.wantConverted(t, what, whole(t, p.pipe(level, most), b, true), want)
	for i, x := range []struct{ size, n int }{{1, 1}, {1, everything}, {7, 3}, {1000, 1}, {len(b), 1000}, {len(b), everything}} {
		got := inParts(t, p.pipe(level, most), b, always(max(x.size, 1)), x.n, i%2 == 0)
		p.wantConverted(t, fmt.Sprintf("%s, parts of %d and %d bytes", what, x.size, x.n), got, want)
	}
}

// P15.3: the data of all pairs of codings, both the same, other ones, and values that
// are none, which leave the bytes as they are.
func TestPipe(t *testing.T) {
	t.Parallel()
	for i, data := range []string{"", "a", "abc", "some data, some data", string(sample.Story(5000)), string(sample.Noise(2000))} {
		for _, p := range pairs() {
			wantPiped(t, p, p.input(t, []byte(data)), (5*i+9)%levels, len(data))
		}
	}
}

// P15.3: the output is what an encoder of the other coding makes at that level, and the
// library reads it.
func TestPipeOfMuch(t *testing.T) {
	for name, data := range sample.Inputs() {
		t.Run(name, func(t *testing.T) {
			t.Parallel()
			for _, p := range conversions() {
				b := p.input(t, data)
				for _, level := range []int{0, 1, 6, 9} {
					got := inParts(t, p.pipe(level, len(data)), b, always(20000), 5000, level == 6)
					wantErr(t, p.String(), got.err, api.ErrDone)
					wantEncoded(t, p.to, level, got.out, data)
				}
			}
		})
	}
}

// Example 1.
func TestGzipToZlib(t *testing.T) {
	p := coding.NewPipe(api.Gzip, api.Zlib, 6, 1000)
	p.Feed([]byte(zeroHeader + "\x4b\x4c\x4a\x06\x00\xc2\x41\x24\x35\x03\x00\x00\x00"))
	wantTake(t, p, 1000, "", api.ErrEnd)
	p.End()
	wantTake(t, p, 1000, "\x78\x9c\x4b\x4c\x4a\x06\x00\x02\x4d\x01\x27", api.ErrEnd)
	wantStays(t, p, api.ErrDone)
}

// P15.3: levels as for an encoder, also those that count as the nearest one.
func TestPipeLevels(t *testing.T) {
	t.Parallel()
	data := sample.Story(40000)
	for _, p := range conversions() {
		b := p.input(t, data)
		for _, level := range []int{math.MinInt, -1, 0, 1, 2, 3, 4, 5, 6, 7, 8, 9, 10, math.MaxInt} {
			got := whole(t, p.pipe(level, far), b, true)
			wantSame(t, fmt.Sprintf("%v, level %d", p, level), got, result{encode(t, p.to, level, data), api.ErrDone})
		}
	}
}

// P15.3: several members of gzip are one output.
func TestPipeOfMembers(t *testing.T) {
	b := slices.Concat(encoded(t, api.Gzip, 6, "abc"), encoded(t, api.Gzip, 0, ""), encoded(t, api.Gzip, 0, "def"))
	for _, to := range []int{api.Identity, api.Zlib, -1} {
		p := pair{api.Gzip, to}
		wantSame(t, p.String(), whole(t, p.pipe(6, 6), b, true), result{encoded(t, to, 6, "abcdef"), api.ErrDone})
		wantPiped(t, p, b, 6, 6)
		wantPiped(t, p, b, 6, 5)
	}
}

// P15.3: if both codings are the same or one is Other, any bytes are unchanged, whatever
// the limit.
func TestUnchanged(t *testing.T) {
	t.Parallel()
	gzipped := encoded(t, api.Gzip, 6, "abc")
	inputs := [][]byte{nil, {0}, []byte("neither"), gzipped, gzipped[:len(gzipped)-1], append(gzipped, 0), encoded(t, api.Zlib, 6, "abc"), {0x78, 0x9c, 7}}
	n := 0
	for _, p := range pairs() {
		if !p.unchanged() {
			continue
		}
		n++
		for _, most := range []int{0, -1, 1, 100, math.MinInt, math.MaxInt} {
			for _, b := range inputs {
				wantSame(t, p.String(), whole(t, p.pipe(6, most), b, true), result{b, api.ErrDone})
				wantPiped(t, p, b, 6, most)
			}
		}
		data := sample.Noise(100000)
		wantSame(t, p.String(), inParts(t, p.pipe(6, 0), data, always(30000), 7000, true), result{data, api.ErrDone})
	}
	// Other on either side with each value, and each value of the list with itself:
	// the one that differs on the two sides has none.
	if n != 7+7-1+3+2 {
		t.Errorf("%d pairs are unchanged", n)
	}
}

// P15.3: unchanged bytes come as soon as they are fed.
func TestUnchangedAtOnce(t *testing.T) {
	for _, p := range pairs() {
		if isPacked(p.to) && !p.unchanged() || isPacked(p.from) && !p.unchanged() {
			continue
		}
		x := p.pipe(6, 9)
		x.Feed([]byte("abc"))
		wantTake(t, x, 2, "ab", api.OK)
		x.Feed([]byte("def"))
		wantTake(t, x, 3, "cde", api.OK)
		wantTake(t, x, 3, "f", api.ErrEnd)
		wantTake(t, x, 3, "", api.ErrEnd)
		x.Feed([]byte("ghi"))
		x.End()
		wantTake(t, x, 3, "ghi", api.OK)
		wantStays(t, x, api.ErrDone)
	}
}

// P15.3: data come as soon as they are decoded, and ErrEnd without bytes behind them.
func TestDecodedAtOnce(t *testing.T) {
	for _, from := range packed {
		b := encoded(t, from, 0, "abc")
		x := coding.NewPipe(from, api.Identity, 6, 3)
		data := len(b) - len("abc") - 4
		if from == api.Gzip {
			data -= 4
		}
		x.Feed(b[:data])
		wantTake(t, x, 1, "", api.ErrEnd)
		x.Feed(b[data : data+2])
		wantTake(t, x, 1, "a", api.OK)
		wantTake(t, x, 3, "b", api.ErrEnd)
		wantTake(t, x, 3, "", api.ErrEnd)
		x.Feed(b[data+2:])
		wantTake(t, x, 3, "c", api.ErrEnd)
		wantTake(t, x, 3, "", api.ErrEnd)
		x.End()
		wantStays(t, x, api.ErrDone)
	}
}

// P15.3: each limit of the data below their length is an error; with their length, or
// above, they are complete. Below 0 it counts as 0.
func TestPipeLimits(t *testing.T) {
	t.Parallel()
	data := []byte("data, data, and more")
	for _, p := range pairs() {
		if p.unchanged() {
			continue
		}
		b, none := p.input(t, data), p.input(t, nil)
		for most := range len(data) + 3 {
			got := whole(t, p.pipe(6, most), b, true)
			want := api.ErrDone
			if most < len(data) {
				want = api.ErrCap
			}
			wantErr(t, fmt.Sprintf("%v, limit %d", p, most), got.err, want)
			wantPiped(t, p, b, 6, most)
		}
		for _, most := range []int{0, -1, -256, math.MinInt} {
			wantErr(t, fmt.Sprintf("%v, limit %d", p, most), whole(t, p.pipe(6, most), b, true).err, api.ErrCap)
			wantErr(t, fmt.Sprintf("%v, limit %d", p, most), whole(t, p.pipe(6, most), none, true).err, api.ErrDone)
			wantPiped(t, p, b, 6, most)
			wantPiped(t, p, none, 6, most)
		}
		wantErr(t, "no limit", whole(t, p.pipe(6, math.MaxInt), b, true).err, api.ErrDone)
	}
}

// P15.3: before anything was fed, and before End, there is neither a byte nor an end if
// nothing can be encoded; and asking for no byte is OK.
func TestBeforeTheEnd(t *testing.T) {
	for _, p := range pairs() {
		x := p.pipe(6, far)
		for range 2 {
			wantStays(t, x, api.ErrEnd)
			wantTake(t, x, 16384, "", api.ErrEnd)
			wantTake(t, x, math.MinInt, "", api.OK)
			x.Feed(nil)
			x.Feed([]byte{})
		}
		b := p.input(t, []byte("some data"))
		x.Feed(b)
		for _, n := range []int{0, -1, math.MinInt} {
			wantTake(t, x, n, "", api.OK)
		}
		out, err := takeAll(t, x, 4)
		wantErr(t, p.String(), err, api.ErrEnd)
		for range 2 {
			wantStays(t, x, api.ErrEnd)
			x.Feed(nil)
		}
		x.End()
		last, err := takeAll(t, x, 4)
		wantSame(t, p.String(), result{append(out, last...), err}, p.want(t, b, 6, far))
		for range 2 {
			wantStays(t, x, api.ErrDone)
			x.Feed([]byte("more"))
			x.End()
		}
	}
}

// P15.3: the output of much data comes before their end, and little of it later.
func TestOutputBeforeTheEnd(t *testing.T) {
	t.Parallel()
	data := sample.Noise(100000)
	for _, p := range conversions() {
		b := p.input(t, data)
		x := p.pipe(6, far)
		x.Feed(b)
		out, err := takeAll(t, x, 1000)
		wantErr(t, p.String(), err, api.ErrEnd)
		if len(out) < len(data)-2*api.BlockSize {
			t.Errorf("%v: %d bytes before the end", p, len(out))
		}
		x.End()
		last, err := takeAll(t, x, 1000)
		wantErr(t, p.String(), err, api.ErrDone)
		wantEncoded(t, p.to, 6, append(out, last...), data)
	}
}

// P15.3: OK with as many bytes as asked for; ErrEnd with fewer; ErrDone at the end, which
// stays.
func TestTakeFromPipes(t *testing.T) {
	for _, p := range pairs() {
		b := p.input(t, []byte("abcdefgh"))
		want := p.want(t, b, 6, 8).out
		n := len(want)
		x := p.pipe(6, 8)
		x.Feed(b)
		x.End()
		wantTake(t, x, 2, string(want[:2]), api.OK)
		wantTake(t, x, 0, "", api.OK)
		wantTake(t, x, -7, "", api.OK)
		wantTake(t, x, n-3, string(want[2:n-1]), api.OK)
		wantTake(t, x, n, string(want[n-1:]), api.ErrEnd)
		wantStays(t, x, api.ErrDone)
		for _, m := range []int{n, n + 1, 1 << 40, math.MaxInt} {
			x = p.pipe(6, 8)
			x.Feed(b)
			x.End()
			err := api.ErrEnd
			if m == n {
				err = api.OK
			}
			wantTake(t, x, m, string(want), err)
			wantStays(t, x, api.ErrDone)
		}
	}
}

// P15.3: the end before anything was fed: no data, but for files, which have some bytes.
func TestPipeEndAtOnce(t *testing.T) {
	for _, p := range pairs() {
		x := p.pipe(6, far)
		x.End()
		x.Feed(p.input(t, []byte("fed behind the end")))
		out, err := takeAll(t, x, 3)
		want := result{nil, api.ErrDone}
		switch {
		case p.unchanged():
		case isPacked(p.from):
			want.err = api.ErrEnd
		default:
			want.out = encoded(t, p.to, 6, "")
		}
		wantSame(t, p.String(), result{out, err}, want)
		for range 2 {
			wantStays(t, x, want.err)
			x.Feed([]byte("more"))
			x.End()
		}
	}
}

// P15.3: what is fed after End is ignored, also if nothing was taken before.
func TestFeedPipesAfterEnd(t *testing.T) {
	t.Parallel()
	data := sample.Story(5000)
	for _, p := range pairs() {
		for _, n := range []int{0, 1, 3000} {
			b := p.input(t, data)
			x := p.pipe(6, len(data))
			x.Feed(b)
			out, _ := x.Take(n)
			x.End()
			x.Feed(b)
			x.End()
			x.Feed([]byte{0})
			rest, err := takeAll(t, x, 999)
			wantSame(t, p.String(), result{append(out, rest...), err}, p.want(t, b, 6, len(data)))
		}
	}
}

// P15.3: parts of random sizes, some of them empty, and output in any sizes.
func TestPipeInRandomParts(t *testing.T) {
	t.Parallel()
	random := rand.New(rand.NewSource(15))
	for _, data := range [][]byte{nil, []byte("some data"), slices.Concat(sample.Story(60000), make([]byte, 50000), sample.Noise(20000))} {
		for i, p := range pairs() {
			level := random.Intn(levels)
			b := p.input(t, data)
			most := 1 << random.Intn(16)
			next := func() int { return random.Intn(2 + random.Intn(most)) }
			got := inParts(t, p.pipe(level, len(data)), b, next, 1+random.Intn(most), i%2 == 0)
			p.wantConverted(t, fmt.Sprintf("level %d, parts below %d", level, most), got, p.want(t, b, level, len(data)))
		}
	}
}

// P15.3: small inputs divided at each place, or at two, with all that is available taken
// there.
func TestPipeInFewParts(t *testing.T) {
	t.Parallel()
	for _, p := range conversions() {
		b := p.input(t, []byte("some data"))
		want := p.want(t, b, 6, 9)
		for i := range len(b) + 1 {
			for j := i; j <= len(b); j++ {
				x := p.pipe(6, 9)
				var out []byte
				for _, part := range [][]byte{b[:i], b[i:j], b[j:]} {
					x.Feed(part)
					some, _ := takeAll(t, x, 1+(i+j)%5)
					out = append(out, some...)
				}
				x.End()
				last, err := takeAll(t, x, 4)
				wantSame(t, fmt.Sprintf("%v, at %d and %d", p, i, j), result{append(out, last...), err}, want)
			}
		}
	}
}

// P15.3: nil pipes return ErrDone, nil or 0. R1: so do those that NewPipe did not make,
// and they accept any call.
func TestNoPipe(t *testing.T) {
	for range 2 {
		var p *coding.Pipe
		for _, n := range []int{1, 100, math.MaxInt, 0, -1, math.MinInt} {
			wantTake(t, p, n, "", api.ErrDone)
		}
		p.Feed(nil)
		p.Feed([]byte("abc"))
		p.End()
		if n := p.Held(); n != 0 {
			t.Errorf("%d bytes are held", n)
		}
	}
	p := new(coding.Pipe)
	for range 2 {
		wantStays(t, p, api.ErrDone)
		p.Feed([]byte("abc"))
		if n := p.Held(); n != 0 {
			t.Errorf("%d bytes are held", n)
		}
		p.End()
	}
}

// P15.3: two pipes, one behind the other, undo each other.
func TestThereAndBack(t *testing.T) {
	t.Parallel()
	data := bytes.Repeat(sample.Story(5000), 10)
	for _, p := range conversions() {
		b := p.input(t, data)
		there, back := p.pipe(6, far), pair{p.to, p.from}.pipe(6, far)
		var out []byte
		pass := func() {
			part, _ := takeAll(t, there, 77)
			back.Feed(part)
			part, _ = takeAll(t, back, 99)
			out = append(out, part...)
		}
		for part := range slices.Chunk(b, 500) {
			there.Feed(part)
			pass()
		}
		there.End()
		pass()
		back.End()
		last, err := takeAll(t, back, 99)
		wantErr(t, p.String(), err, api.ErrDone)
		wantBytes(t, p.String(), append(out, last...), b)
	}
}
