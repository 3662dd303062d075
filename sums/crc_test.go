package sums_test

import (
	"hash/crc32"
	"math"
	"math/rand"
	"testing"

	"concertina/sums"
)

// starts are checksums to begin with.
var starts = []uint32{0, 1, 0x80, 0xff, 0x100, 0xedb88320, 0xcbf43926, 1 << 31, math.MaxUint32 - 1, math.MaxUint32}

// period is the number of bytes after whose steps each number is itself again:
// the polynomial is primitive.
const period = 1<<32 - 1

// wantSum compares checksums.
func wantSum(t *testing.T, what string, got, want uint32) {
	t.Helper()
	if got != want {
		t.Errorf("%s: %#08x instead of %#08x", what, got, want)
	}
}

// some returns n bytes.
func some(random *rand.Rand, n int) []byte {
	b := make([]byte, n)
	for i := range b {
		b[i] = byte(random.Intn(256))
	}
	return b
}

// plainSteps does n of the steps of P2.1, as the chapter tells them.
func plainSteps(v uint32, n int) uint32 {
	for range n {
		out := v & 1
		v >>= 1
		if out == 1 {
			v ^= 0xedb88320
		}
	}
	return v
}

// plainCRC is P2.1, as the chapter tells it.
func plainCRC(crc uint32, b []byte) uint32 {
	crc ^= math.MaxUint32
	for _, x := range b {
		crc ^= uint32(x)
		crc = plainSteps(crc, 8)
	}
	return crc ^ math.MaxUint32
}

// P2.1: the example of the chapter.
func TestCRCExample(t *testing.T) {
	wantSum(t, "123456789", sums.CRC(0, []byte("123456789")), 0xcbf43926)
}

// P2.1: known checksums, and those of the standard library.
func TestCRCKnown(t *testing.T) {
	tests := []struct {
		text string
		want uint32
	}{
		{"", 0},
		{"a", 0xe8b7be43},
		{"abc", 0x352441c2},
		{"\x00", 0xd202ef8d},
		{"\xff", 0xff000000},
		{"\x00\x00\x00\x00", 0x2144df1c},
		{"\xff\xff\xff\xff", 0xffffffff},
		{"The quick brown fox jumps over the lazy dog", 0x414fa339},
	}
	for _, x := range tests {
		wantSum(t, x.text, sums.CRC(0, []byte(x.text)), x.want)
	}
	random := rand.New(rand.NewSource(1))
	b := some(random, 100000)
	wantSum(t, "many bytes", sums.CRC(0, b), crc32.ChecksumIEEE(b))
}

// P2.1: no bytes change nothing, whatever the checksum is.
func TestCRCOfNoBytes(t *testing.T) {
	for _, crc := range starts {
		wantSum(t, "nil", sums.CRC(crc, nil), crc)
		wantSum(t, "empty", sums.CRC(crc, []byte{}), crc)
	}
}

// P2.1: any checksum to begin with, and any number of bytes.
func TestCRCAsTold(t *testing.T) {
	random := rand.New(rand.NewSource(2))
	for n := range 600 {
		b := some(random, n)
		for _, crc := range append([]uint32{random.Uint32()}, starts...) {
			wantSum(t, "CRC", sums.CRC(crc, b), plainCRC(crc, b))
		}
	}
}

// P2.1: every byte, after every checksum of starts.
func TestCRCOfEachByte(t *testing.T) {
	for x := range 256 {
		b := []byte{byte(x)}
		for _, crc := range starts {
			wantSum(t, "CRC", sums.CRC(crc, b), plainCRC(crc, b))
		}
	}
}

// P2.1: the checksum of a sequence is continued, wherever it is divided.
func TestCRCInParts(t *testing.T) {
	random := rand.New(rand.NewSource(3))
	b := some(random, 1000)
	want := sums.CRC(0x12345678, b)
	for i := range len(b) + 1 {
		wantSum(t, "in two parts", sums.CRC(sums.CRC(0x12345678, b[:i]), b[i:]), want)
	}
	crc := uint32(0x12345678)
	for i := range b {
		crc = sums.CRC(crc, b[i:i+1])
	}
	wantSum(t, "byte by byte", crc, want)
}

// P2.1: every value of Table.
func TestTable(t *testing.T) {
	table, known := sums.Table(), crc32.MakeTable(crc32.IEEE)
	for i, got := range table {
		wantSum(t, "eight steps", got, plainSteps(uint32(i), 8))
		wantSum(t, "of the library", got, known[i])
	}
	wantSum(t, "of 0", table[0], 0)
	wantSum(t, "of 1", table[1], 0x77073096)
	wantSum(t, "of 128", table[128], 0xedb88320)
	wantSum(t, "of 255", table[255], 0x2d02ef8d)
}

// P2.1, R4 and R5: a table that was changed changes no other result.
func TestTableIsNewMemory(t *testing.T) {
	table := sums.Table()
	for i := range table {
		table[i] = 0
	}
	wantSum(t, "next table", sums.Table()[1], 0x77073096)
	b := make([]byte, 1000)
	wantSum(t, "CRC", sums.CRC(0, b), plainCRC(0, b))
}

// P2.1 and R4: b isn't changed, with its spare capacity.
func TestCRCKeepsArgument(t *testing.T) {
	array := []byte("abcdef")
	sums.CRC(5, array[:3])
	if string(array) != "abcdef" {
		t.Errorf("argument: %q", array)
	}
}

// P2.3: the joined checksum is that of both sequences.
func TestJoinCRC(t *testing.T) {
	random := rand.New(rand.NewSource(4))
	for _, n := range []int{0, 1, 2, 3, 7, 8, 9, 255, 256, 257, 1000, 65535, 65536, 300000} {
		for _, before := range []int{0, 1, 5, 4096} {
			b := some(random, before+n)
			first, second := sums.CRC(0, b[:before]), sums.CRC(0, b[before:])
			wantSum(t, "JoinCRC", sums.JoinCRC(first, second, n), crc32.ChecksumIEEE(b))
		}
	}
}

// P2.3: any checksums, joined as the chapter tells it.
func TestJoinCRCAsTold(t *testing.T) {
	random := rand.New(rand.NewSource(5))
	for n := range 70 {
		for _, a := range append([]uint32{random.Uint32()}, starts...) {
			b := random.Uint32()
			wantSum(t, "JoinCRC", sums.JoinCRC(a, b, n), plainSteps(a, 8*n)^b)
		}
	}
}

// P2.3: no steps for a length of 0, and for one below it.
func TestJoinCRCOfNoLength(t *testing.T) {
	for _, n := range []int{0, -1, -8, math.MinInt32, math.MinInt, math.MinInt + 1} {
		for _, a := range starts {
			wantSum(t, "JoinCRC", sums.JoinCRC(a, 0x12345678, n), a^0x12345678)
		}
	}
}

// P2.3: lengths of many bytes, beyond those that can be tried.
func TestJoinCRCOfManyBytes(t *testing.T) {
	for _, a := range starts {
		wantSum(t, "a period", sums.JoinCRC(a, 0x12345678, period), a^0x12345678)
		wantSum(t, "a period and 5", sums.JoinCRC(a, 7, period+5), plainSteps(a, 40)^7)
		wantSum(t, "the most", sums.JoinCRC(a, 7, math.MaxInt), sums.JoinCRC(a, 7, math.MaxInt%period))
		// 8 n is more than an int there.
		wantSum(t, "2^61", sums.JoinCRC(a, 7, 1<<61), sums.JoinCRC(a, 7, 1<<61%period))
		wantSum(t, "in two steps", sums.JoinCRC(sums.JoinCRC(a, 0, 1<<30), 7, 1<<30-1), sums.JoinCRC(a, 7, 1<<31-1))
	}
	wantSum(t, "2^20 zeros", sums.JoinCRC(0xcbf43926, 0xa738ea1c, 1<<20), sums.CRC(0xcbf43926, make([]byte, 1<<20)))
}
