package sum_test

import (
	"bytes"
	"hash/crc32"
	"math/rand/v2"
	"sync"
	"testing"

	"governor/sum"
)

const poly = 0xedb88320

// told is the sum bit by bit, as the words of B1 and B2 tell it, without a table.
func told(sum uint32, b []byte) uint32 {
	register := ^sum
	for _, c := range b {
		register ^= uint32(c)
		for range 8 {
			out := register & 1
			register >>= 1
			if out == 1 {
				register ^= poly
			}
		}
	}
	return ^register
}

// rowOf is the four bytes of which n is the sum: the register, from its end on, goes up again.
func rowOf(n uint32) []byte {
	register := ^n
	for range 32 {
		if register&(1<<31) != 0 {
			register = (register^poly)<<1 | 1
			continue
		}
		register <<= 1
	}
	register = ^register
	return []byte{byte(register), byte(register >> 8), byte(register >> 16), byte(register >> 24)}
}

func randomRow(r *rand.Rand, n int) []byte {
	b := make([]byte, n)
	for i := range b {
		b[i] = byte(r.IntN(256))
	}
	return b
}

func wantSum(t *testing.T, what string, b []byte, got uint32, want uint32) {
	t.Helper()
	if got != want {
		t.Errorf("%s, %d bytes %.40q: %#08x, not %#08x", what, len(b), b, got, want)
	}
}

// someSums is where a register's bits lie at their bounds, and some between.
func someSums() []uint32 {
	sums := []uint32{0, 1, 0x7fffffff, 0x80000000, 0xfffffffe, 0xffffffff, 0xff000000, 0x00ffffff, 0xcbf43926, poly}
	r := rand.New(rand.NewPCG(2, 1))
	for range 20 {
		sums = append(sums, r.Uint32())
	}
	return sums
}

// someRows is rows of many lengths, nothing and nil too.
func someRows() [][]byte {
	rows := [][]byte{nil, {}, {0}, {255}, make([]byte, 100), bytes.Repeat([]byte{255}, 100), []byte("123456789")}
	r := rand.New(rand.NewPCG(2, 2))
	for n := range 70 {
		rows = append(rows, randomRow(r, n))
	}
	return append(rows, randomRow(r, 255), randomRow(r, 256), randomRow(r, 257), randomRow(r, 1800))
}

// P2.1, B1

func TestOfKnown(t *testing.T) {
	for s, want := range map[string]uint32{
		"":                 0,
		"\x00":             0xd202ef8d,
		"\x00\x00":         0x41d912ff,
		"\x00\x00\x00\x00": 0x2144df1c,
		"\xff":             0xff000000,
		"\xff\xff\xff\xff": 0xffffffff,
		"a":                0xe8b7be43,
		"abc":              0x352441c2,
		"123456789":        0xcbf43926,
	} {
		wantSum(t, "of", []byte(s), sum.Of([]byte(s)), want)
	}
	wantSum(t, "of nil", nil, sum.Of(nil), 0)
	wantSum(t, "of an empty row", nil, sum.Of([]byte{}), 0)
}

func TestOfEachByte(t *testing.T) {
	for c := range 256 {
		v := byte(c)
		for _, b := range [][]byte{{v}, {0, v}, {v, 0}, {255, v, 255}, {v, v, v, v, v}, {'1', '2', '3', v}} {
			wantSum(t, "of", b, sum.Of(b), told(0, b))
			wantSum(t, "of, as IEEE 802.3 has it", b, sum.Of(b), crc32.ChecksumIEEE(b))
		}
	}
}

func TestOfRows(t *testing.T) {
	for _, b := range append(someRows(), make([]byte, 1<<20), bytes.Repeat([]byte("governor"), 1<<15)) {
		wantSum(t, "of", b, sum.Of(b), told(0, b))
		wantSum(t, "of, as IEEE 802.3 has it", b, sum.Of(b), crc32.ChecksumIEEE(b))
	}
}

// P2.1, B2

func TestMoreOfNothingAhead(t *testing.T) {
	for _, b := range someRows() {
		wantSum(t, "more behind nothing", b, sum.More(sum.Of(nil), b), told(0, b))
		wantSum(t, "more behind 0", b, sum.More(0, b), sum.Of(b))
	}
}

func TestMoreOfNothingBehind(t *testing.T) {
	for _, n := range someSums() {
		wantSum(t, "nil behind", nil, sum.More(n, nil), n)
		wantSum(t, "an empty row behind", nil, sum.More(n, []byte{}), n)
	}
}

func TestMoreBehindAnyNumber(t *testing.T) {
	for _, n := range someSums() {
		for c := range 256 {
			b := []byte{byte(c)}
			wantSum(t, "one byte behind", b, sum.More(n, b), told(n, b))
		}
		for _, b := range someRows() {
			wantSum(t, "behind", b, sum.More(n, b), told(n, b))
			wantSum(t, "behind, as IEEE 802.3 has it", b, sum.More(n, b), crc32.Update(n, crc32.IEEETable, b))
		}
	}
}

// Any number is some row's sum, so More of it is the sum of that row with more behind.
func TestMoreIsTheSumOfBoth(t *testing.T) {
	for _, n := range someSums() {
		row := rowOf(n)
		wantSum(t, "of four bytes", row, sum.Of(row), n)
		for _, b := range someRows() {
			both := append(bytes.Clone(row), b...)
			wantSum(t, "of both", both, sum.Of(both), sum.More(n, b))
		}
	}
}

// P3

// spare is b with room behind it that is full of c.
func spare(b []byte, c byte) []byte {
	whole := append(bytes.Clone(b), bytes.Repeat([]byte{c}, 16)...)
	return whole[:len(b)]
}

func TestARowStaysAsItWas(t *testing.T) {
	for _, b := range someRows() {
		for _, c := range []byte{0, 7, 255} {
			given := spare(b, c)
			ahead := bytes.Clone(given[:cap(given)])
			wantSum(t, "of, with spare room", b, sum.Of(given), told(0, b))
			wantSum(t, "more, with spare room", b, sum.More(5, given), told(5, b))
			if !bytes.Equal(given[:cap(given)], ahead) {
				t.Errorf("%d bytes changed, or their spare room", len(b))
			}
		}
	}
}

func TestARowIsNotKept(t *testing.T) {
	b := []byte("123456789")
	for range 2 {
		wantSum(t, "of", b, sum.Of(b), 0xcbf43926)
		other := bytes.Clone(b)
		wantSum(t, "of another one", other, sum.Of(other), 0xcbf43926)
		clear(other)
		wantSum(t, "of what it became", other, sum.Of(other), told(0, other))
		wantSum(t, "more", b, sum.More(0xffffffff, b), told(0xffffffff, b))
	}
}

func TestSumsSideBySide(t *testing.T) {
	rows := someRows()
	got := make([]uint32, len(rows))
	var all sync.WaitGroup
	for i, b := range rows {
		all.Go(func() { got[i] = sum.More(sum.Of(b), b) })
	}
	all.Wait()
	for i, b := range rows {
		wantSum(t, "side by side", b, got[i], told(told(0, b), b))
	}
}
