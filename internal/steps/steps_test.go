package steps_test

import (
	"math"
	"testing"

	"concertina/api"
	"concertina/internal/expect"
	"concertina/internal/steps"
)

// pieces are what steps have, one after the other, and then an error.
type pieces struct {
	list [][]byte
	err  api.Errno
}

// step returns what there is of the next piece.
func (p *pieces) step(n int) ([]byte, api.Errno) {
	if len(p.list) == 0 {
		return nil, p.err
	}
	b := p.list[0]
	if len(b) > n {
		p.list[0] = b[n:]
		return b[:n:n], api.OK
	}
	p.list = p.list[1:]
	return b, api.OK
}

// Take has what steps take.
func (p *pieces) Take(n int) ([]byte, api.Errno) {
	return steps.Take(n, p.step)
}

// some returns pieces with an error behind them.
func some(err api.Errno) *pieces {
	return &pieces{[][]byte{nil, []byte("abc"), {}, nil, []byte("d"), []byte("ef"), nil}, err}
}

// As many bytes as asked for come with OK, fewer with ErrEnd, and none with the
// error.
func TestTake(t *testing.T) {
	for _, err := range []api.Errno{api.ErrEnd, api.ErrDone, api.ErrSum} {
		for n := 1; n < 8; n++ {
			p := some(err)
			b, got := expect.All(t, p, n)
			expect.Bytes(t, "all", b, []byte("abcdef"))
			expect.Err(t, "all", got, err)
			expect.Stays(t, p, err)
		}
		p := some(err)
		expect.Take(t, p, 4, "abcd", api.OK)
		expect.Take(t, p, 2, "ef", api.OK)
		expect.Take(t, p, 2, "", err)
		p = some(err)
		expect.Take(t, p, math.MaxInt, "abcdef", api.ErrEnd)
		expect.Take(t, p, math.MaxInt, "", err)
	}
}

// If nothing is asked for, no step is taken.
func TestTakeNothing(t *testing.T) {
	for _, n := range []int{0, -1, math.MinInt} {
		b, err := steps.Take(n, func(int) ([]byte, api.Errno) {
			t.Error("a step")
			return nil, api.ErrDone
		})
		expect.Bytes(t, "nothing", b, nil)
		expect.Err(t, "nothing", err, api.OK)
	}
}

// Behind as many bytes as asked for, no step is taken.
func TestTakeNoMore(t *testing.T) {
	n := 0
	b, err := steps.Take(6, func(most int) ([]byte, api.Errno) {
		n++
		if most != 8-2*n {
			t.Errorf("step %d: %d bytes", n, most)
		}
		return []byte("ab"), api.OK
	})
	expect.Bytes(t, "bytes", b, []byte("ababab"))
	expect.Err(t, "error", err, api.OK)
	if n != 3 {
		t.Errorf("%d steps", n)
	}
}
