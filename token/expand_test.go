package token_test

import (
	"bytes"
	"math"
	"math/rand"
	"slices"
	"testing"

	"concertina/api"
	"concertina/internal/sample"
	"concertina/token"
	"concertina/window"
)

// mostBytes is how many bytes tokens may have.
const mostBytes = 1 << 24

// P8.2: no tokens have no bytes.
func TestExpandNothing(t *testing.T) {
	wantExpand(t, nil, nil)
	wantExpand(t, []api.Token{}, nil)
	wantExpand(t, lits("abc")[:0], nil)
}

// P8.2: literals are their bytes.
func TestExpandLiterals(t *testing.T) {
	wantExpand(t, []api.Token{{}}, []byte{0})
	wantExpand(t, lits("a"), []byte("a"))
	wantExpand(t, lits("concertina"), []byte("concertina"))
	all := make([]byte, 256)
	for i := range all {
		all[i] = byte(255 - i)
	}
	wantExpand(t, lits(all), all)
	long := sample.Noise(100000)
	wantExpand(t, lits(long), long)
}

// P8.2: matches repeat bytes, of literals, of matches, and of themselves.
func TestExpandMatches(t *testing.T) {
	for _, x := range []struct {
		list []api.Token
		want string
	}{
		{join(lits("abc"), []api.Token{match(3, 3)}), "abcabc"},
		{join(lits("abc"), []api.Token{match(6, 3)}), "abcabcabc"},
		{join(lits("abcd"), []api.Token{match(3, 4)}), "abcdabc"},
		{join(lits("a"), []api.Token{match(3, 1)}), "aaaa"},
		{join(lits("ab"), []api.Token{match(5, 2)}), "abababa"},
		{join(lits("abc"), []api.Token{match(4, 1)}), "abccccc"},
		{join(lits("abc"), []api.Token{match(4, 2)}), "abcbcbc"},
		{join(lits("abc"), []api.Token{match(4, 3), lit('d'), match(3, 8)}), "abcabcadabc"},
		{join(lits("ab"), []api.Token{match(3, 2), match(5, 5), match(3, 1)}), "ababaababaaaa"},
		{join(lits("\x00\xff"), []api.Token{match(4, 2), lit(0)}), "\x00\xff\x00\xff\x00\xff\x00"},
	} {
		wantExpand(t, x.list, []byte(x.want))
	}
}

// P8.2: matches of every length, near and far.
func TestExpandMatchesOfEveryLength(t *testing.T) {
	b := sample.Noise(300)
	for n := 3; n <= 258; n++ {
		for _, dist := range []int{1, 2, 3, 4, n - 1, n, n + 1, 299, 300} {
			want := slices.Concat(b, bytes.Repeat(b[300-dist:], n/dist+1)[:n])
			wantExpand(t, join(lits(b), []api.Token{match(n, dist)}), want)
		}
	}
}

// P8.2: a match as far back as there are bytes, and one farther.
func TestExpandAtTheFirstByte(t *testing.T) {
	for _, n := range []int{3, 258} {
		wantError(t, []api.Token{match(n, 1)}, api.ErrCode)
		wantError(t, []api.Token{match(n, 32768)}, api.ErrCode)
		wantError(t, []api.Token{match(n, 1), lit('a')}, api.ErrCode)
	}
	for have := 1; have <= 600; have++ {
		b := sample.Noise(have)
		want := slices.Concat(b, bytes.Repeat(b, 3/have+1)[:3])
		wantExpand(t, join(lits(b), []api.Token{match(3, have)}), want)
		wantError(t, join(lits(b), []api.Token{match(3, have+1)}), api.ErrCode)
		wantError(t, join(lits(b), []api.Token{match(3, 32768)}), api.ErrCode)
	}
	// What a match adds is there for the next one.
	list := join(lits("ab"), []api.Token{match(3, 2)})
	wantExpand(t, join(list, []api.Token{match(3, 5)}), []byte("ababaaba"))
	wantError(t, join(list, []api.Token{match(3, 6)}), api.ErrCode)
}

// P8.2: a match at the greatest distance needs that many bytes, and of more
// takes the last ones; a greater distance is none, however many bytes there are.
func TestExpandAtTheGreatestDistance(t *testing.T) {
	for _, have := range []int{32766, 32767} {
		wantError(t, join(lits(sample.Noise(have)), []api.Token{match(3, 32768)}), api.ErrCode)
	}
	for _, have := range []int{32768, 32769, 33000, 70000} {
		b := sample.Noise(have)
		for _, n := range []int{3, 4, 257, 258} {
			list := join(lits(b), []api.Token{match(n, 32768)})
			wantExpand(t, list, slices.Concat(b, b[have-32768:have-32768+n]))
		}
		wantError(t, join(lits(b), []api.Token{match(3, 32769)}), api.ErrArg)
	}
	wantError(t, join(lits(sample.Noise(70000)), []api.Token{match(3, 70000)}), api.ErrArg)
}

// unsound are tokens that are neither literals nor matches.
func unsound() []api.Token {
	list := []api.Token{
		match(1, 1), match(2, 1), match(259, 1), match(3, 0), match(258, 0), match(0, 1), match(0, 32768), match(3, 32769),
		{Lit: 'a', Len: 3, Dist: 1}, {Lit: 255, Len: 258, Dist: 32768}, {Lit: 'a', Len: 1}, {Lit: 'a', Dist: 1},
	}
	for _, n := range extremes {
		list = append(list, match(n, 1), match(n, 0), match(n, n), match(3, n), match(0, n), api.Token{Lit: 'a', Dist: n})
	}
	return list
}

// P8.2: a token that is not sound, wherever it is.
func TestExpandUnsound(t *testing.T) {
	for _, x := range unsound() {
		wantError(t, []api.Token{x}, api.ErrArg)
		wantError(t, []api.Token{x, lit('a')}, api.ErrArg)
		wantError(t, join(lits("abc"), []api.Token{x}), api.ErrArg)
		wantError(t, join(lits("abc"), []api.Token{x, match(3, 3)}), api.ErrArg)
		wantError(t, join(lits("abc"), []api.Token{match(3, 3), x}), api.ErrArg)
	}
}

// P8.2: for one token ErrArg comes before ErrCode.
func TestExpandNamesErrArgFirst(t *testing.T) {
	for _, x := range []api.Token{
		match(2, 4), match(259, 4), match(0, 4), match(3, 32769), match(math.MaxInt, math.MaxInt), {Lit: 1, Len: 3, Dist: 4}, {Lit: 1, Dist: 4},
	} {
		wantError(t, []api.Token{x}, api.ErrArg)
		wantError(t, join(lits("abc"), []api.Token{x}), api.ErrArg)
	}
}

// P8.2: the first token that has an error decides.
func TestExpandFirstErrorDecides(t *testing.T) {
	tooFar, bad := match(3, 4), match(2, 1)
	wantError(t, join(lits("abc"), []api.Token{tooFar, bad}), api.ErrCode)
	wantError(t, join(lits("abc"), []api.Token{bad, tooFar}), api.ErrArg)
	wantError(t, []api.Token{tooFar, lit('a'), bad}, api.ErrCode)
	wantError(t, []api.Token{bad, lit('a'), tooFar}, api.ErrArg)
	// The same match is an error only as long as there are too few bytes.
	wantError(t, join(lits("abc"), []api.Token{tooFar, lit('d'), tooFar}), api.ErrCode)
	wantError(t, join(lits("abcd"), []api.Token{tooFar, bad}), api.ErrArg)
}

// tokensOf returns tokens that have n times the byte a, for n from 1 on.
func tokensOf(n int) []api.Token {
	list := lits("a")
	n--
	for ; n >= 258; n -= 258 {
		list = append(list, match(258, 1))
	}
	return append(list, lits(bytes.Repeat([]byte("a"), n))...)
}

// P8.2: as many bytes as may be, whether a literal or a match is the last of
// them, and one more.
func TestExpandAtTheCap(t *testing.T) {
	full := bytes.Repeat([]byte("a"), mostBytes)
	wantExpand(t, tokensOf(mostBytes-1), full[1:])
	wantExpand(t, tokensOf(mostBytes), full)
	wantError(t, append(tokensOf(mostBytes), lit('a')), api.ErrCap)
	wantError(t, append(tokensOf(mostBytes), match(3, 1)), api.ErrCap)
	for _, n := range []int{3, 4, 257, 258} {
		wantExpand(t, append(tokensOf(mostBytes-n), match(n, 32768)), full)
		wantError(t, append(tokensOf(mostBytes-n+1), match(n, 32768)), api.ErrCap)
		wantError(t, append(tokensOf(mostBytes-1), match(n, 1)), api.ErrCap)
	}
}

// P8.2: for one token ErrArg comes before ErrCap, and the first one decides.
func TestExpandErrorsAtTheCap(t *testing.T) {
	list := tokensOf(mostBytes)
	wantError(t, join(list, []api.Token{match(2, 1)}), api.ErrArg)
	wantError(t, join(list, []api.Token{match(259, 1)}), api.ErrArg)
	wantError(t, join(list, []api.Token{match(math.MaxInt, 1)}), api.ErrArg)
	wantError(t, join(list, []api.Token{match(3, 32769)}), api.ErrArg)
	wantError(t, join(list, []api.Token{{Lit: 'a', Len: 3, Dist: 1}}), api.ErrArg)
	wantError(t, join(list, []api.Token{lit('a'), match(2, 1)}), api.ErrCap)
	wantError(t, join(list, []api.Token{match(2, 1), lit('a')}), api.ErrArg)
	wantError(t, join([]api.Token{match(3, 1)}, list, lits("a")), api.ErrCode)
	// A token that is too long leaves no room for a shorter one behind it.
	wantError(t, join(tokensOf(mostBytes-2), []api.Token{match(3, 1), lit('a')}), api.ErrCap)
}

// plainExpand is Expand for few tokens, as the chapter tells it.
func plainExpand(list []api.Token) ([]byte, api.Errno) {
	var out []byte
	for _, x := range list {
		literal := x.Len == 0 && x.Dist == 0
		isMatch := x.Len >= 3 && x.Len <= 258 && x.Dist >= 1 && x.Dist <= 32768 && x.Lit == 0
		switch {
		case literal:
			out = append(out, x.Lit)
		case !isMatch:
			return nil, api.ErrArg
		case x.Dist > len(out):
			return nil, api.ErrCode
		default:
			for range x.Len {
				out = append(out, out[len(out)-x.Dist])
			}
		}
	}
	return out, api.OK
}

// someToken returns a token that mostly has no error behind that many bytes.
func someToken(random *rand.Rand, have int) api.Token {
	switch random.Intn(40) {
	case 0:
		return api.Token{Lit: byte(random.Intn(2)), Len: random.Intn(262) - 1, Dist: random.Intn(3) - 1}
	case 1:
		return match(3+random.Intn(256), 1+random.Intn(32769))
	case 2, 3, 4:
		return match(3+random.Intn(256), min(max(have, 1), 32768))
	}
	if have == 0 || random.Intn(2) == 0 {
		return lit(byte(random.Intn(256)))
	}
	return match(3+random.Intn(256), 1+random.Intn(min(have, 32768)))
}

// P8.2: any tokens, against the promise as it is told.
func TestExpandAsTold(t *testing.T) {
	random := rand.New(rand.NewSource(2))
	errs := map[api.Errno]int{}
	for range 3000 {
		var list []api.Token
		have := 0
		for range random.Intn(60) {
			x := someToken(random, have)
			list = append(list, x)
			have += max(x.Len, 1)
		}
		want, err := plainExpand(list)
		errs[err]++
		if err == api.OK {
			wantExpand(t, list, want)
		} else {
			wantError(t, list, err)
		}
	}
	for _, err := range []api.Errno{api.OK, api.ErrArg, api.ErrCode} {
		if errs[err] < 50 {
			t.Errorf("only %d lists with %d", errs[err], err)
		}
	}
}

// P8.2: long lists, whose matches go far back, have the bytes of Add and Copy.
func TestExpandAsWindow(t *testing.T) {
	random := rand.New(rand.NewSource(3))
	w := window.New()
	list := lits(sample.Noise(40000))
	want := sample.Noise(40000)
	w.Add(want)
	for range 3000 {
		n, dist := 3+random.Intn(256), 1+random.Intn(32768)
		b, err := w.Copy(n, dist)
		if err != api.OK {
			t.Fatal(err)
		}
		list = append(list, match(n, dist))
		want = append(want, b...)
	}
	wantExpand(t, list, want)
}

// R4: the tokens stay as they are, with their spare capacity.
func TestExpandKeepsItsArgument(t *testing.T) {
	for _, list := range [][]api.Token{
		join(lits("abc"), []api.Token{match(5, 2), lit('d'), match(2, 2), lit('e')}),
		join(lits("abc"), []api.Token{match(5, 4), lit('d'), match(3, 2), lit('e')}),
	} {
		before := slices.Clone(list)
		token.Expand(list)
		token.Expand(list[:4])
		if !slices.Equal(list, before) {
			t.Errorf("tokens: %v", list)
		}
	}
}

// R4 and R5: bytes are new memory, and a call knows nothing of others.
func TestExpandIsNewMemory(t *testing.T) {
	list := join(lits("abc"), []api.Token{match(5, 2), match(3, 8)})
	a, _ := token.Expand(list)
	b, _ := token.Expand(list)
	a = a[:cap(a)]
	for i := range a {
		a[i] ^= 0x55
	}
	list[0] = lit('x')
	if string(b) != "abcbcbcbabc" {
		t.Errorf("bytes: %q", b)
	}
	wantExpand(t, list, []byte("xbcbcbcbxbc"))
	wantError(t, []api.Token{match(3, 1)}, api.ErrCode)
}
