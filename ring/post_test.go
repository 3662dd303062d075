package ring_test

import (
	"math"
	"testing"

	"concertina/api"
	"concertina/ring"
)

// wantNext asks for the next element.
func wantNext[T comparable](t *testing.T, p *ring.Post[T], want T, wantOK bool) {
	t.Helper()
	x, ok := p.Next()
	if x != want || ok != wantOK {
		t.Errorf("Next: %v %v instead of %v %v", x, ok, want, wantOK)
	}
}

// wantSent sends an element.
func wantSent[T any](t *testing.T, p *ring.Post[T], x T, want bool) {
	t.Helper()
	if ok := p.Send(x); ok != want {
		t.Errorf("Send(%v): %v", x, ok)
	}
}

// P3.2: elements come in the order in which they were sent.
func TestPost(t *testing.T) {
	p := ring.NewPost[string](3)
	wantNext(t, p, "", false)
	wantSent(t, p, "a", true)
	wantNumber(t, "Len", p.Len(), 1)
	wantSent(t, p, "b", true)
	wantNumber(t, "Len", p.Len(), 2)
	wantNext(t, p, "a", true)
	wantNumber(t, "Len", p.Len(), 1)
	wantSent(t, p, "c", true)
	wantNext(t, p, "b", true)
	wantNext(t, p, "c", true)
	wantNumber(t, "Len", p.Len(), 0)
	wantNext(t, p, "", false)
	wantNext(t, p, "", false)
	wantSent(t, p, "d", true)
	wantNext(t, p, "d", true)
}

// P3.2: a full queue takes nothing, until there is room again.
func TestFullPost(t *testing.T) {
	p := ring.NewPost[int](2)
	wantSent(t, p, 1, true)
	wantSent(t, p, 2, true)
	for range 3 {
		wantSent(t, p, 3, false)
		wantNumber(t, "Len", p.Len(), 2)
	}
	wantNext(t, p, 1, true)
	wantSent(t, p, 4, true)
	wantSent(t, p, 5, false)
	wantNext(t, p, 2, true)
	wantNext(t, p, 4, true)
	wantNext(t, p, 0, false)
}

// P3.2: a new queue is empty, and its capacity is limited as that of New.
func TestNewPost(t *testing.T) {
	for _, x := range capacities {
		p := ring.NewPost[int](x.most)
		if p == nil {
			t.Fatal("no queue")
		}
		wantNumber(t, "Len", p.Len(), 0)
		wantNext(t, p, 0, false)
		n := 0
		for n < api.MaxBuffer+2 && p.Send(n) {
			n++
		}
		wantNumber(t, "sent", n, x.want)
		wantNumber(t, "Len", p.Len(), x.want)
		for i := range n {
			wantNext(t, p, i, true)
		}
		wantNext(t, p, 0, false)
		wantNumber(t, "Len", p.Len(), 0)
	}
}

// P3.2: a zero value that was sent is an element as any other one.
func TestPostOfZeroValues(t *testing.T) {
	p := ring.NewPost[*int](2)
	wantSent(t, p, nil, true)
	wantNumber(t, "Len", p.Len(), 1)
	wantNext(t, p, nil, true)
	wantNext(t, p, nil, false)
}

// P3.2: the order stays and the capacity too, however long a queue is in use.
func TestPostInLongUse(t *testing.T) {
	p := ring.NewPost[int](5)
	sent, got := 0, 0
	for round := range 5000 {
		for range round % 7 {
			room := sent-got < 5
			wantSent(t, p, sent, room)
			if room {
				sent++
			}
		}
		for range round % 4 {
			if sent > got {
				wantNext(t, p, got, true)
				got++
			} else {
				wantNext(t, p, 0, false)
			}
		}
		wantNumber(t, "Len", p.Len(), sent-got)
	}
	if got < 5000 {
		t.Errorf("only %d", got)
	}
}

// P3.2 and R4: an element is what was sent, whatever becomes of the variable.
func TestSendKeepsNoArgument(t *testing.T) {
	p := ring.NewPost[[2]int](2)
	x := [2]int{1, 2}
	p.Send(x)
	x[0] = 9
	p.Send(x)
	wantNext(t, p, [2]int{1, 2}, true)
	wantNext(t, p, [2]int{9, 2}, true)
}

// P3.2: elements of any type, also without a size and with a large one.
func TestPostOfAnyType(t *testing.T) {
	tokens := ring.NewPost[api.Token](1)
	wantSent(t, tokens, api.Token{Len: 3, Dist: 1}, true)
	wantNext(t, tokens, api.Token{Len: 3, Dist: 1}, true)
	wantNext(t, tokens, api.Token{}, false)

	errors := ring.NewPost[error](2)
	wantSent(t, errors, nil, true)
	wantNext(t, errors, nil, true)
	wantNext(t, errors, nil, false)

	none := ring.NewPost[struct{}](2)
	wantSent(t, none, struct{}{}, true)
	wantSent(t, none, struct{}{}, true)
	wantSent(t, none, struct{}{}, false)
	wantNumber(t, "Len", none.Len(), 2)

	large := ring.NewPost[[1 << 17]byte](math.MaxInt)
	if !large.Send([1 << 17]byte{1}) || !large.Send([1 << 17]byte{2}) {
		t.Error("arrays: none")
	}
	if x, ok := large.Next(); !ok || x[0] != 1 {
		t.Error("arrays: another one")
	}
	wantNumber(t, "Len", large.Len(), 1)
}

// P3.2: a nil queue returns 0, the zero value, or false.
func TestNilPost(t *testing.T) {
	var p *ring.Post[int]
	wantSent(t, p, 1, false)
	wantNext(t, p, 0, false)
	wantNumber(t, "Len", p.Len(), 0)
	var texts *ring.Post[string]
	wantSent(t, texts, "a", false)
	wantNext(t, texts, "", false)
}

// R1: a queue that NewPost did not make has no room.
func TestZeroPost(t *testing.T) {
	var p ring.Post[int]
	wantSent(t, &p, 1, false)
	wantNext(t, &p, 0, false)
	wantNumber(t, "Len", p.Len(), 0)
}

// R5: queues know nothing of each other.
func TestPostsAreApart(t *testing.T) {
	a, b := ring.NewPost[int](1), ring.NewPost[int](2)
	wantSent(t, a, 1, true)
	wantSent(t, b, 2, true)
	wantSent(t, a, 3, false)
	wantSent(t, b, 4, true)
	wantNext(t, b, 2, true)
	wantNext(t, a, 1, true)
	wantNext(t, a, 0, false)
	wantNext(t, b, 4, true)
}
