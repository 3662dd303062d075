package coding_test

import (
	"math"
	"strings"
	"testing"
	"unicode"

	"concertina/api"
	"concertina/coding"
)

// P15.1: the names of the three codings that have one; other values have none.
func TestName(t *testing.T) {
	want := map[int]string{api.Identity: "identity", api.Gzip: "gzip", api.Zlib: "deflate"}
	values := []int{math.MinInt, math.MinInt + 1, -1 << 32, 1 << 32, 1<<32 + 1, math.MaxInt - 1, math.MaxInt}
	for c := -300; c <= 300; c++ {
		values = append(values, c)
	}
	for _, c := range values {
		if got := coding.Name(c); got != want[c] {
			t.Errorf("Name(%d) = %q", c, got)
		}
	}
}

// wantOf compares the coding with a name.
func wantOf(t *testing.T, name string, want int) {
	t.Helper()
	if got := coding.Of(name); got != want {
		t.Errorf("Of(%q) = %d instead of %d", name, got, want)
	}
}

// known are the names of codings.
func known() map[string]int {
	return map[string]int{"identity": api.Identity, "gzip": api.Gzip, "x-gzip": api.Gzip, "deflate": api.Zlib}
}

// P15.1: the coding with a name, with each of its letters in lower or upper case.
func TestOf(t *testing.T) {
	for name, want := range known() {
		for upper := range 1 << len(name) {
			b := []byte(name)
			for i, c := range b {
				if upper>>i&1 == 1 {
					b[i] = strings.ToUpper(string(rune(c)))[0]
				}
			}
			wantOf(t, string(b), want)
		}
	}
}

// P15.1: Of and Name are inverse to each other.
func TestOfName(t *testing.T) {
	for _, c := range named {
		wantOf(t, coding.Name(c), c)
		wantOf(t, strings.ToUpper(coding.Name(c)), c)
	}
	for _, c := range append(strange, api.Other) {
		wantOf(t, coding.Name(c), api.Other)
	}
}

// P15.1: any other name, also one that nearly is one.
func TestOfOther(t *testing.T) {
	for _, name := range []string{
		"", " ", "*", "br", "zstd", "compress", "x-compress", "other", "zlib", "x-deflate", "x-identity",
		"gzip ", " gzip", "gzip,", "gzip;q=1", "gzip, deflate", "gzip\x00", "\x00gzip", "gzip\n", "\"gzip\"",
		"gz", "gzi", "zip", "gzipp", "ggzip", "g zip", "g-zip", "gzip-", "-gzip", "x", "x-", "xgzip", "x_gzip",
		"x--gzip", "xx-gzip", "x-x-gzip", "x-gzi", "x-gzipx", "ident", "identity1", "deflat", "deflated", "inflate",
		"0", "1", "2", "\xff", "gz\xffip", "gzip\xff", "\xc7zip",
		"g\u017aip", "gz\u0131p", "gz\u0130p", "\uff47\uff5a\uff49\uff50", "\u0130dentity", "\u0131dentity",
		"de\ufb02ate", "x\u2010gzip", "x\u2011gzip", strings.Repeat("gzip", 1000),
	} {
		wantOf(t, name, api.Other)
	}
}

// P15.1: a name with any other byte in one place, one byte less or one more.
func TestOfNearlyAName(t *testing.T) {
	for name := range known() {
		for i := range len(name) {
			for v := range 256 {
				b := []byte(name)
				b[i] = byte(v)
				if !strings.EqualFold(string(b), name) {
					wantOf(t, string(b), api.Other)
				}
				wantOf(t, name[:i]+string([]byte{byte(v)})+name[i:], api.Other)
			}
			wantOf(t, name[:i]+name[i+1:], api.Other)
		}
		for v := range 256 {
			wantOf(t, name+string([]byte{byte(v)}), api.Other)
		}
	}
}

// P15.1: the case of letters is that of ASCII: no other letter stands for one of a
// name.
func TestOfLettersOutsideOfASCII(t *testing.T) {
	t.Parallel()
	for name := range known() {
		for i := range len(name) {
			for r := rune(unicode.MaxASCII + 1); r <= unicode.MaxRune; r++ {
				lower := unicode.ToLower(r) < 0x80 || unicode.ToUpper(r) < 0x80
				if lower || r < 0x500 || r > 0xfb00 && r < 0xff80 {
					wantOf(t, name[:i]+string(r)+name[i+1:], api.Other)
				}
			}
		}
	}
}
