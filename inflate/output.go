package inflate

import (
	"concertina/api"
	"concertina/window"
)

// output takes the data of a stream.
type output struct {
	window window.Window // what matches repeat
	most   int           // how many more bytes there may be
	room   int           // how many more bytes Take wants
	list   []byte        // what Take returns: between calls nothing
}

// share returns how many of the next n bytes are put out now, at least one, or
// ErrCap if there may be none.
func (o *output) share(n int) (int, api.Errno) {
	if o.most == 0 {
		return 0, api.ErrCap
	}
	return min(n, o.most, o.room), api.OK
}

// add puts out the bytes of b, within a share.
func (o *output) add(b []byte) {
	o.window.Add(b)
	o.put(b)
}

// repeat puts out n bytes, within a share, each of which is equal to the byte dist
// positions before it. There are as many.
func (o *output) repeat(n, dist int) {
	b, _ := o.window.Copy(n, dist)
	o.put(b)
}

// put appends bytes that are in the window to what Take returns.
func (o *output) put(b []byte) {
	o.list = append(o.list, b...)
	o.most -= len(b)
	o.room -= len(b)
}

// take removes and returns the bytes that were put out.
func (o *output) take() []byte {
	b := o.list
	o.list = nil
	return b
}

// close forgets what only further bytes would need.
func (o *output) close() {
	o.window = window.Window{}
}
