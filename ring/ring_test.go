package ring_test

import (
	"math"
	"slices"
	"testing"

	"concertina/api"
	"concertina/ring"
)

// capacities are arguments of New and NewPost, with the capacities they make.
var capacities = []struct{ most, want int }{
	{0, 0}, {1, 1}, {2, 2}, {1000, 1000},
	{api.MaxBuffer - 1, api.MaxBuffer - 1}, {api.MaxBuffer, api.MaxBuffer},
	{api.MaxBuffer + 1, api.MaxBuffer}, {math.MaxInt32, api.MaxBuffer}, {math.MaxInt, api.MaxBuffer},
	{-1, 0}, {-api.MaxBuffer, 0}, {math.MinInt32, 0}, {math.MinInt, 0},
}

// noCounts are numbers of elements that are below 1.
var noCounts = []int{0, -1, -2, -api.MaxBuffer, math.MinInt32, math.MinInt}

func wantNumber(t *testing.T, what string, got, want int) {
	t.Helper()
	if got != want {
		t.Errorf("%s: %d instead of %d", what, got, want)
	}
}

// wantList compares elements; nil and empty are the same.
func wantList[T comparable](t *testing.T, what string, got []T, want ...T) {
	t.Helper()
	if !slices.Equal(got, want) {
		t.Errorf("%s: %v instead of %v", what, got, want)
	}
}

// wantSize asks how many elements a queue has, and how much room.
func wantSize[T any](t *testing.T, r *ring.Ring[T], elements, room int) {
	t.Helper()
	wantNumber(t, "Len", r.Len(), elements)
	wantNumber(t, "Room", r.Room(), room)
}

// ringOf returns a queue with elements and no more room.
func ringOf[T any](list ...T) *ring.Ring[T] {
	r := ring.New[T](len(list))
	r.Push(list)
	return r
}

// count returns the numbers from 0 to n - 1.
func count(n int) []int {
	list := make([]int, n)
	for i := range list {
		list[i] = i
	}
	return list
}

// P3.1: the example of the chapter.
func TestRingExample(t *testing.T) {
	r := ring.New[int](2)
	wantNumber(t, "Push", r.Push([]int{7, 8, 9}), 2)
	wantList(t, "Pop", r.Pop(3), 7, 8)
}

// P3.1: a new queue is empty, and its capacity is limited.
func TestNewRing(t *testing.T) {
	for _, x := range capacities {
		r := ring.New[byte](x.most)
		if r == nil {
			t.Fatal("no queue")
		}
		wantSize(t, r, 0, x.want)
		wantList(t, "Peek", r.Peek(1))
		wantList(t, "Pop", r.Pop(1))
		wantNumber(t, "Push", r.Push(make([]byte, api.MaxBuffer+2)), x.want)
		wantSize(t, r, x.want, 0)
		wantNumber(t, "Pop", len(r.Pop(math.MaxInt)), x.want)
		wantSize(t, r, 0, x.want)
	}
}

// P3.1: Push appends behind what there is, as far as there is room.
func TestPush(t *testing.T) {
	r := ring.New[int](5)
	for _, x := range []struct {
		list        []int
		n, elements int
		after       []int
	}{
		{[]int{1, 2}, 2, 2, []int{1, 2}},
		{nil, 0, 2, []int{1, 2}},
		{[]int{}, 0, 2, []int{1, 2}},
		{[]int{3}, 1, 3, []int{1, 2, 3}},
		{[]int{4, 5, 6, 7}, 2, 5, []int{1, 2, 3, 4, 5}},
		{[]int{8}, 0, 5, []int{1, 2, 3, 4, 5}},
		{nil, 0, 5, []int{1, 2, 3, 4, 5}},
	} {
		wantNumber(t, "Push", r.Push(x.list), x.n)
		wantSize(t, r, x.elements, 5-x.elements)
		wantList(t, "Peek", r.Peek(10), x.after...)
	}
}

// P3.1: as many elements as there is room for, exactly and one more.
func TestPushAtTheLimit(t *testing.T) {
	r := ring.New[int](3)
	wantNumber(t, "as many", r.Push([]int{1, 2, 3}), 3)
	wantNumber(t, "into a full one", r.Push([]int{4}), 0)
	wantList(t, "Pop", r.Pop(1), 1)
	wantSize(t, r, 2, 1)
	wantNumber(t, "one more", r.Push([]int{5, 6}), 1)
	wantList(t, "Pop", r.Pop(4), 2, 3, 5)
}

// P3.1: Pop removes at most n elements, the first ones in order.
func TestPop(t *testing.T) {
	r := ringOf(1, 2, 3, 4, 5, 6)
	wantList(t, "one", r.Pop(1), 1)
	wantSize(t, r, 5, 1)
	wantList(t, "two", r.Pop(2), 2, 3)
	wantSize(t, r, 3, 3)
	wantList(t, "more than there are", r.Pop(4), 4, 5, 6)
	wantSize(t, r, 0, 6)
	wantList(t, "of an empty one", r.Pop(1))
	wantSize(t, r, 0, 6)
	r.Push([]int{7, 8})
	wantList(t, "as many as there are", r.Pop(2), 7, 8)
	r.Push([]int{9})
	wantList(t, "as many as may be", r.Pop(math.MaxInt), 9)
}

// P3.1: Peek returns what Pop does and removes nothing.
func TestPeek(t *testing.T) {
	r := ringOf("a", "b", "c")
	for range 2 {
		wantList(t, "one", r.Peek(1), "a")
		wantList(t, "two", r.Peek(2), "a", "b")
		wantList(t, "all", r.Peek(3), "a", "b", "c")
		wantList(t, "more than there are", r.Peek(4), "a", "b", "c")
		wantList(t, "as many as may be", r.Peek(math.MaxInt), "a", "b", "c")
		wantSize(t, r, 3, 0)
	}
	r.Pop(2)
	wantList(t, "behind what was popped", r.Peek(3), "c")
}

// P3.1: no elements if n is below 1.
func TestPopAndPeekOfNone(t *testing.T) {
	for _, n := range noCounts {
		r := ringOf(1, 2)
		wantList(t, "Peek", r.Peek(n))
		wantList(t, "Pop", r.Pop(n))
		wantSize(t, r, 2, 0)
		wantList(t, "Pop", r.Pop(2), 1, 2)
		wantList(t, "Peek of an empty one", r.Peek(n))
		wantList(t, "Pop of an empty one", r.Pop(n))
		wantSize(t, r, 0, 2)
	}
}

// P3.1: a queue with a capacity of 0 takes nothing.
func TestRingWithoutRoom(t *testing.T) {
	r := ring.New[int](0)
	wantNumber(t, "Push", r.Push([]int{1}), 0)
	wantNumber(t, "Push of nothing", r.Push(nil), 0)
	wantSize(t, r, 0, 0)
	wantList(t, "Pop", r.Pop(1))
	wantList(t, "Peek", r.Peek(1))
}

// P3.1: the largest queue keeps all elements, in order.
func TestLargestRing(t *testing.T) {
	list := count(api.MaxBuffer + 10)
	r := ring.New[int](math.MaxInt)
	wantNumber(t, "Push", r.Push(list), api.MaxBuffer)
	wantNumber(t, "Push", r.Push(list), 0)
	wantList(t, "Pop", r.Pop(100), list[:100]...)
	wantNumber(t, "Push", r.Push(list), 100)
	wantList(t, "Pop", r.Pop(api.MaxBuffer-100), list[100:api.MaxBuffer]...)
	wantList(t, "Pop", r.Pop(api.MaxBuffer), list[:100]...)
}

// P3.1: the order stays and the capacity too, however long a queue is in use.
func TestRingInLongUse(t *testing.T) {
	r := ring.New[int](7)
	pushed, popped := 0, 0
	for round := range 5000 {
		list := count(round % 10)
		for i := range list {
			list[i] += pushed
		}
		n := min(len(list), 7-(pushed-popped))
		wantNumber(t, "Push", r.Push(list), n)
		pushed += n
		for _, x := range r.Pop(round % 6) {
			wantNumber(t, "Pop", x, popped)
			popped++
		}
		wantSize(t, r, pushed-popped, 7-(pushed-popped))
	}
	if popped < 5000 {
		t.Errorf("only %d", popped)
	}
}

// P3.1 and R4: list isn't changed, with its spare capacity, and isn't kept.
func TestPushKeepsNoArgument(t *testing.T) {
	array := []int{1, 2, 3, 4}
	r := ring.New[int](10)
	r.Push(array[:2])
	r.Push([]int{9, 9, 9})
	wantList(t, "argument", array, 1, 2, 3, 4)
	array[0] = 7
	wantList(t, "Pop", r.Pop(5), 1, 2, 9, 9, 9)
	wantList(t, "argument", array, 7, 2, 3, 4)
}

// P3.1 and R4: what is returned is new memory.
func TestElementsAreNewMemory(t *testing.T) {
	r := ring.New[int](8)
	r.Push([]int{1, 2, 3, 4, 5, 6})
	peeked, again := r.Peek(4), r.Peek(4)
	popped := r.Pop(3)
	for _, list := range [][]int{peeked, popped} {
		for i := range list {
			list[i] = 99
		}
		_ = append(list, 99, 99, 99)
	}
	wantList(t, "what was peeked as well", again, 1, 2, 3, 4)
	r.Push([]int{7, 8, 9, 10, 11})
	wantList(t, "what was popped", popped, 99, 99, 99)
	wantList(t, "what is left", r.Pop(10), 4, 5, 6, 7, 8, 9, 10, 11)
	wantList(t, "what was peeked", peeked, 99, 99, 99, 99)
}

// P3.1: elements of any type, also without a size and with a large one.
func TestRingOfAnyType(t *testing.T) {
	tokens := ringOf(api.Token{Lit: 1}, api.Token{Len: 3, Dist: 1})
	wantList(t, "structs", tokens.Pop(2), api.Token{Lit: 1}, api.Token{Len: 3, Dist: 1})
	mixed := ringOf[any](api.ErrEnd, nil, "text")
	wantList[any](t, "interfaces", mixed.Pop(3), api.ErrEnd, nil, "text")
	x := 5
	wantList(t, "pointers", ringOf(nil, &x).Pop(2), nil, &x)

	none := ring.New[struct{}](3)
	wantNumber(t, "Push", none.Push(make([]struct{}, 5)), 3)
	wantSize(t, none, 3, 0)
	wantNumber(t, "Pop", len(none.Pop(2)), 2)
	wantSize(t, none, 1, 2)

	large := ring.New[[1 << 17]byte](math.MaxInt)
	wantNumber(t, "Push", large.Push([][1 << 17]byte{{1}, {2}}), 2)
	wantSize(t, large, 2, api.MaxBuffer-2)
	if list := large.Pop(2); len(list) != 2 || list[0][0] != 1 || list[1][0] != 2 {
		t.Error("arrays: others")
	}
}

// P3.2: a nil queue returns 0 or nil.
func TestNilRing(t *testing.T) {
	var r *ring.Ring[int]
	wantNumber(t, "Push", r.Push([]int{1}), 0)
	wantNumber(t, "Push of nothing", r.Push(nil), 0)
	wantSize(t, r, 0, 0)
	for _, n := range append([]int{1, 2, math.MaxInt}, noCounts...) {
		if list := r.Pop(n); list != nil {
			t.Errorf("Pop(%d): %v", n, list)
		}
		if list := r.Peek(n); list != nil {
			t.Errorf("Peek(%d): %v", n, list)
		}
	}
}

// R1: a queue that New did not make has no room.
func TestZeroRing(t *testing.T) {
	var r ring.Ring[int]
	wantNumber(t, "Push", r.Push([]int{1}), 0)
	wantSize(t, &r, 0, 0)
	wantList(t, "Pop", r.Pop(1))
	wantList(t, "Peek", r.Peek(1))
}

// R5: queues know nothing of each other.
func TestRingsAreApart(t *testing.T) {
	a, b := ring.New[int](2), ring.New[int](3)
	a.Push([]int{1, 2})
	b.Push([]int{3})
	wantSize(t, a, 2, 0)
	wantSize(t, b, 1, 2)
	wantList(t, "b", b.Pop(2), 3)
	wantList(t, "a", a.Pop(2), 1, 2)
}
