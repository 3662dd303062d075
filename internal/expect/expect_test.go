package expect_test

import (
	"fmt"
	"strings"
	"testing"

	"concertina/api"
	"concertina/internal/expect"
)

// notes are a test that keeps its messages.
type notes []string

func (n *notes) Helper() {}

func (n *notes) Errorf(format string, args ...any) {
	*n = append(*n, fmt.Sprintf(format, args...))
}

// wantNotes compares the messages of a test.
func wantNotes(t *testing.T, n notes, want ...string) {
	t.Helper()
	if fmt.Sprint(n) != fmt.Sprint(want) {
		t.Errorf("%q instead of %q", n, want)
	}
}

// What is the same has no message.
func TestTheSame(t *testing.T) {
	var n notes
	expect.Bytes(&n, "bytes", []byte("ab"), []byte("ab"))
	expect.Bytes(&n, "bytes", nil, []byte{})
	expect.Err(&n, "error", api.ErrEnd, api.ErrEnd)
	wantNotes(t, n)
}

// What is not the same has one, with the beginning of long bytes.
func TestNotTheSame(t *testing.T) {
	var n notes
	expect.Bytes(&n, "first", []byte("ab"), []byte("ac"))
	expect.Bytes(&n, "second", []byte("ab"), nil)
	expect.Err(&n, "third", api.OK, api.ErrEnd)
	wantNotes(t, n, `first: 2 bytes "ab" instead of 2 bytes "ac"`, `second: 2 bytes "ab" instead of 0 bytes ""`, "third: error 0 instead of 5")
	long := strings.Repeat("a", 41)
	n = nil
	expect.Bytes(&n, "long", []byte(long), []byte(long[1:]))
	wantNotes(t, n, `long: 41 bytes "`+long[1:]+`.." instead of 40 bytes "`+long[1:]+`"`)
}
