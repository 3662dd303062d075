package ring_test

import (
	"runtime"
	"testing"
	"weak"

	"concertina/ring"
)

// thing is large enough to have memory of its own.
type thing [1024]byte

// things returns n of them, and what tells whether they are still in memory.
func things(n int) ([]*thing, []weak.Pointer[thing]) {
	var list []*thing
	var marks []weak.Pointer[thing]
	for range n {
		x := new(thing)
		list, marks = append(list, x), append(marks, weak.Make(x))
	}
	return list, marks
}

// poppedRing returns a queue with things of which it gave out the first ones.
func poppedRing(n, popped int) (*ring.Ring[*thing], []weak.Pointer[thing]) {
	list, marks := things(n)
	r := ring.New[*thing](n)
	r.Push(list)
	r.Pop(popped)
	return r, marks
}

// takenPost does the same as poppedRing.
func takenPost(n, taken int) (*ring.Post[*thing], []weak.Pointer[thing]) {
	list, marks := things(n)
	p := ring.NewPost[*thing](n)
	for _, x := range list {
		p.Send(x)
	}
	for range taken {
		p.Next()
	}
	return p, marks
}

// wantKept compares which things are in memory.
func wantKept(t *testing.T, marks []weak.Pointer[thing], gone int) {
	t.Helper()
	runtime.GC()
	for i, x := range marks {
		if kept := x.Value() != nil; kept != (i >= gone) {
			t.Errorf("element %d is kept: %v", i, kept)
		}
	}
}

// R4: what was removed isn't kept, neither beside other elements nor in an
// empty queue.
func TestRemovedElementsAreNotKept(t *testing.T) {
	for _, gone := range []int{0, 1, 3, 4} {
		r, marks := poppedRing(4, gone)
		wantKept(t, marks, gone)
		wantNumber(t, "Len of the ring", r.Len(), 4-gone)
		p, marks := takenPost(4, gone)
		wantKept(t, marks, gone)
		wantNumber(t, "Len of the post", p.Len(), 4-gone)
	}
}
