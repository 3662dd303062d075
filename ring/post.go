package ring

// Post is a queue of elements that come and go one by one, through a channel.
// Its zero value is a queue without room.
type Post[T any] struct {
	// A channel of the elements themselves could not have those of any type:
	// the language limits their size. So it has their places.
	queue chan *T
}

// NewPost returns an empty queue with a capacity of most elements, within the
// limits.
func NewPost[T any](most int) *Post[T] {
	return &Post[T]{queue: make(chan *T, limited(most))}
}

// Send appends x and returns true, or returns false if the queue is full.
func (p *Post[T]) Send(x T) bool {
	if p == nil {
		return false
	}
	select {
	case p.queue <- &x:
		return true
	default:
		return false
	}
}

// Next removes and returns the first element, and true; or it returns the zero
// value and false if there is none.
func (p *Post[T]) Next() (T, bool) {
	var none T
	if p == nil {
		return none, false
	}
	select {
	case x := <-p.queue:
		return *x, true
	default:
		return none, false
	}
}

// Len returns the number of elements.
func (p *Post[T]) Len() int {
	if p == nil {
		return 0
	}
	return len(p.queue)
}
