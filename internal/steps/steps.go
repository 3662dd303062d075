// Package steps takes the output of decoders that read their input piece by piece.
package steps

import "concertina/api"

// Take returns the next bytes that the steps of a decoder output, at most n, and OK
// if there are n of them. If there are fewer, the error is ErrEnd; if there are none,
// it is that of the last step. A step is told how many bytes it may output. It
// returns some and OK, or none and OK if another step may follow, or an error alone.
func Take(n int, step func(n int) ([]byte, api.Errno)) ([]byte, api.Errno) {
	var list []byte
	err := api.OK
	for err == api.OK && len(list) < n {
		var b []byte
		b, err = step(n - len(list))
		list = append(list, b...)
	}
	if err != api.OK && len(list) > 0 {
		// What is behind these bytes is told when they are gone.
		err = api.ErrEnd
	}
	return list, err
}
