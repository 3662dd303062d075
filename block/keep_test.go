package block_test

import (
	"bytes"
	"math/rand"
	"slices"
	"testing"

	"concertina/api"
	"concertina/bits"
	"concertina/block"
	"concertina/internal/sample"
)

// R1: without a writer the results are those with one.
func TestNilWriter(t *testing.T) {
	for kind := range 3 {
		if !block.WriteKind(nil, kind, lits("abc"), []byte("abc"), true) {
			t.Errorf("kind %d: no block", kind)
		}
	}
	for _, kind := range noKinds {
		if block.WriteKind(nil, kind, nil, nil, true) {
			t.Errorf("kind %d: a block", kind)
		}
	}
	if block.WriteKind(nil, api.Fixed, []api.Token{match(2, 1)}, nil, false) {
		t.Error("a block of an unsound token")
	}
	if got := block.Write(nil, lits("abc"), []byte("abc"), false); got != api.Fixed {
		t.Errorf("kind %d", got)
	}
	if got := block.Write(nil, []api.Token{match(2, 1)}, make([]byte, mostRaw+1), false); got != -1 {
		t.Errorf("kind %d", got)
	}
}

// R1: a writer that was not made by NewWriter is an empty one.
func TestZeroWriter(t *testing.T) {
	var w bits.Writer
	if !block.WriteKind(&w, api.Fixed, nil, nil, true) || w.Bits() != 10 {
		t.Errorf("%d bits", w.Bits())
	}
}

// R4: tokens and bytes stay as they are, with their spare capacity.
func TestArgumentsStay(t *testing.T) {
	list := append(lits("abcabc"), match(258, 3), match(2, 2), lit('x'))
	raw := sample.Noise(100)
	listBefore, rawBefore := slices.Clone(list), bytes.Clone(raw)
	for kind := -1; kind <= 3; kind++ {
		for _, n := range []int{0, 7, len(list)} {
			w := bits.NewWriter()
			block.WriteKind(w, kind, list[:n], raw[:n], true)
			block.Cost(kind, list[:n], raw[:n])
			block.Write(w, list[:n], raw[:n], true)
		}
	}
	if !slices.Equal(list, listBefore) || !bytes.Equal(raw, rawBefore) {
		t.Errorf("tokens %v, bytes %x", list, raw)
	}
}

// R4: what was written does not change with the arguments.
func TestArgumentsAreNotKept(t *testing.T) {
	for kind := range 3 {
		list, raw := lits("abcd"), []byte("abcd")
		want, n := written(t, 0, kind, list, raw, true)
		w := bits.NewWriter()
		block.WriteKind(w, kind, list, raw, true)
		list[0], raw[0] = lit('x'), 'x'
		w.Align()
		if got := w.Take(); !bytes.Equal(got, want) {
			t.Errorf("kind %d: %x instead of %x, %d bits", kind, got, want, n)
		}
	}
}

// R4: the lengths of the fixed codes are new memory each time.
func TestFixedLengthsAreNew(t *testing.T) {
	first, second := block.FixedLengths()
	first, second = first[:cap(first)], second[:cap(second)]
	for i := range first {
		first[i] = 1
	}
	for i := range second {
		second[i] = 2
	}
	if first[0] != 1 || first[len(first)-1] != 1 {
		t.Error("both share memory")
	}
	TestFixedLengths(t)
	TestFixedBits(t)
}

// R5: a block does not depend on those before it.
func TestBlocksAreIndependent(t *testing.T) {
	random := rand.New(rand.NewSource(9))
	type call struct {
		kind int
		list []api.Token
		want []byte
	}
	var calls []call
	for range 50 {
		list := someTokens(random, random.Intn(300))
		kind := random.Intn(3)
		want, _ := written(t, 0, kind, list, sample.Noise(len(list)), true)
		calls = append(calls, call{kind, list, want})
	}
	for _, c := range slices.Backward(calls) {
		if got, _ := written(t, 0, c.kind, c.list, sample.Noise(len(c.list)), true); !bytes.Equal(got, c.want) {
			t.Errorf("kind %d: %x instead of %x", c.kind, got, c.want)
		}
	}
}
