package manifest_test

import (
	"bytes"
	"encoding/binary"
	"encoding/hex"
	"hash/crc32"
	"math"
	"math/rand/v2"
	"slices"
	"testing"

	"governor/api"
	"governor/manifest"
)

// summed is bytes with their sum behind them.
func summed(b []byte) []byte {
	return binary.BigEndian.AppendUint32(bytes.Clone(b), crc32.ChecksumIEEE(b))
}

// told is a list's bytes by the words alone, with the sum that they ask for, be the list right or not.
func told(l ...int64) []byte {
	b := []byte{byte(len(l))}
	for _, n := range l {
		b = binary.BigEndian.AppendUint32(b, uint32(n))
	}
	return summed(b)
}

// rising is a right list of n numbers, with gaps that are great or small.
func rising(r *rand.Rand, n int) []int64 {
	most := []int64{int64(n) - 1, int64(n), 1000, 1 << 17, api.MaxSeq}[r.IntN(5)]
	numbers := map[int64]bool{}
	for len(numbers) < n {
		numbers[r.Int64N(most+1)] = true
	}
	var l []int64
	for number := range numbers {
		l = append(l, number)
	}
	slices.Sort(l)
	return l
}

// row is n numbers from first on, each so much above the one ahead.
func row(first int64, by int64, n int) []int64 {
	l := make([]int64, n)
	for i := range l {
		l[i] = first + int64(i)*by
	}
	return l
}

// someLists is right lists, of each length, with numbers at their bounds and between.
func someLists() [][]int64 {
	lists := [][]int64{
		{0}, {1}, {12}, {255}, {256}, {65535}, {65536}, {1<<24 - 1}, {1 << 24}, {api.MaxSeq - 1}, {api.MaxSeq},
		{0, 1}, {0, api.MaxSeq}, {3, 5}, {api.MaxSeq - 1, api.MaxSeq}, {0, 1, 2}, {255, 256, 65535, 65536, 1 << 24},
		row(0, 1, api.MaxSegments-1), row(0, 1, api.MaxSegments), row(7, 1000, api.MaxSegments), row(api.MaxSeq-39, 1, api.MaxSegments), row(api.MaxSeq-39*256, 256, api.MaxSegments),
	}
	r := rand.New(rand.NewPCG(5, 1))
	for n := 1; n <= api.MaxSegments; n++ {
		lists = append(lists, rising(r, n), rising(r, n))
	}
	return lists
}

// wrongBytes is lists that are not right, but have bytes in a list's form.
func wrongBytes() [][]int64 {
	lists := [][]int64{
		{}, {api.MaxSeq + 1}, {1<<31 - 1}, {1 << 31}, {1<<31 + 5}, {math.MaxUint32},
		{0, 0}, {3, 3}, {api.MaxSeq, api.MaxSeq}, {5, 3}, {1, 0}, {api.MaxSeq, 0}, {api.MaxSeq, api.MaxSeq + 1}, {0, math.MaxUint32}, {api.MaxSeq + 1, 3}, {math.MaxUint32, 0},
		{1, 2, 2}, {1, 1, 2}, {1, 3, 2}, {2, 1, 3}, {3, 2, 1}, {1, 2, 1}, {0, 1, api.MaxSeq + 1}, {0, api.MaxSeq + 1, 2}, {256, 255}, {1 << 24, 1},
		row(0, 1, api.MaxSegments+1), row(0, 0, api.MaxSegments+1), row(0, 1, 255), row(39, -1, api.MaxSegments), row(5, 0, api.MaxSegments), row(api.MaxSeq-38, 1, api.MaxSegments),
	}
	for _, at := range []int{1, 20, 39} {
		l := row(10, 10, api.MaxSegments)
		l[at] = l[at-1]
		lists = append(lists, l)
	}
	return lists
}

// wrongLists is lists that are not right.
func wrongLists() [][]int64 {
	return append(wrongBytes(),
		nil, []int64{-1}, []int64{-1, 0}, []int64{-5, -3}, []int64{0, -1}, []int64{math.MinInt64}, []int64{math.MinInt64, 0, 1}, []int64{3, math.MinInt64}, []int64{-api.MaxSeq},
		[]int64{1 << 32}, []int64{1<<32 + 1}, []int64{0, 1 << 32}, []int64{1, 1<<32 + 2}, []int64{math.MaxInt64}, []int64{0, math.MaxInt64}, []int64{5, -1<<32 + 7},
		row(0, 1, 256), row(0, 1, 257), row(0, 1, 256+3), row(0, 1, 1000), row(-1, 1, api.MaxSegments), row(-20, 1, 41),
	)
}

func wantGot(t *testing.T, b []byte, want []int64) {
	t.Helper()
	if l, e := manifest.Get(b); e != api.OK || !slices.Equal(l, want) {
		t.Errorf("Get of %x: %v, error %d, not %v", b, l, e, want)
	}
}

// wantRefused asks for that error, and for nothing beside it.
func wantRefused(t *testing.T, b []byte, want api.Errno) {
	t.Helper()
	if l, e := manifest.Get(b); e != want || len(l) != 0 {
		t.Errorf("Get of %d bytes %.20x: %v, error %d, not %d", len(b), b, l, e, want)
	}
}

// P5.1, E1: which lists are right

func TestRight(t *testing.T) {
	for _, l := range someLists() {
		if !manifest.Right(l) {
			t.Error("not right:", l)
		}
	}
	for _, l := range wrongLists() {
		if manifest.Right(l) {
			t.Error("right:", l)
		}
	}
}

// Each list of three small numbers, below 0 and alike ones too.
func TestRightOfSmallLists(t *testing.T) {
	for i := range int64(6 * 6 * 6) {
		l := []int64{i%6 - 1, i/6%6 - 1, i/36 - 1}
		want := 0 <= l[0] && l[0] < l[1] && l[1] < l[2]
		if manifest.Right(l) != want {
			t.Errorf("Right of %v is not %t", l, want)
		}
	}
}

// P5.1, E1: a list's bytes

func TestKnownBytes(t *testing.T) {
	for want, l := range map[string][]int64{
		"0100000000fb42dead":                                 {0},
		"01000001020c578ec0":                                 {258},
		"014000000060568690":                                 {api.MaxSeq},
		"0200000000000001023fea6c45":                         {0, 258},
		"03000000010000000200000003460c3cd5":                 {1, 2, 3},
		"03010203040a0b0c0d40000000402d2128":                 {0x01020304, 0x0a0b0c0d, api.MaxSeq},
		"05000000ff000001000000ffff0001000001000000ff512218": {255, 256, 65535, 65536, 1 << 24},
	} {
		if got := hex.EncodeToString(manifest.Put(l)); got != want {
			t.Errorf("Put of %v: %s, not %s", l, got, want)
		}
		b, _ := hex.DecodeString(want)
		wantGot(t, b, l)
	}
}

func TestPutIsItsBytes(t *testing.T) {
	for _, l := range someLists() {
		b := manifest.Put(l)
		if want := told(l...); !bytes.Equal(b, want) || len(b) != 5+4*len(l) {
			t.Errorf("Put of %v: %x, not %x", l, b, want)
		}
		wantGot(t, told(l...), l)
	}
}

func TestPutOfWrongLists(t *testing.T) {
	for _, l := range wrongLists() {
		if b := manifest.Put(l); len(b) != 0 {
			t.Errorf("Put of %v: %x", l, b)
		}
	}
}

// P5.1, E1: what bytes are refused

func TestGetOfNothing(t *testing.T) {
	wantRefused(t, nil, api.ErrForm)
	wantRefused(t, []byte{}, api.ErrForm)
	wantRefused(t, told(3)[:0], api.ErrForm)
}

// Too few bytes, and too many, are told ahead of a sum that is another one.
func TestGetOfOtherLengths(t *testing.T) {
	for _, l := range append(someLists(), wrongBytes()...) {
		b := told(l...)
		for i := range b {
			wantRefused(t, b[:i], api.ErrForm)
		}
		for _, behind := range [][]byte{{0}, {1, 2, 3}, make([]byte, 4), make([]byte, 1000), b} {
			wantRefused(t, slices.Concat(b, behind), api.ErrForm)
			wantRefused(t, slices.Concat(b[:len(b)-4], behind[:1], b[len(b)-4:]), api.ErrForm)
		}
	}
}

// They are told also where the sum is that of the bytes ahead of it.
func TestGetOfOtherLengthsWithTheirSum(t *testing.T) {
	for count := range 256 {
		size := 4*count + 5
		for _, other := range []int{5, 6, 8, 9, 13, size - 5, size - 4, size - 3, size - 2, size - 1, size + 1, size + 2, size + 3, size + 4, size + 5, size + 4*256} {
			if other < 5 || other == size {
				continue
			}
			b := make([]byte, other-4)
			b[0] = byte(count)
			wantRefused(t, summed(b), api.ErrForm)
		}
	}
}

// The first bytes that the chapter's bounds lie at, each with as many bytes as it says.
func TestGetByTheFirstByte(t *testing.T) {
	for count := range 256 {
		b := told(row(5, 3, count)...)
		if count >= 1 && count <= api.MaxSegments {
			wantGot(t, b, row(5, 3, count))
		} else {
			wantRefused(t, b, api.ErrForm)
		}
		b[len(b)-1] ^= 1
		wantRefused(t, b, api.ErrSum)
	}
}

// Another sum is told ahead of a list that is not right.
func TestGetOfAnotherSum(t *testing.T) {
	for _, l := range append(someLists(), wrongBytes()...) {
		for bit := range 32 {
			b := told(l...)
			b[len(b)-4+bit/8] ^= 1 << (bit % 8)
			wantRefused(t, b, api.ErrSum)
		}
	}
}

// The sum is of all the bytes ahead of it, and of nothing else.
func TestGetOfTheSumOfOtherBytes(t *testing.T) {
	b := told(3, 5, 9)
	head := b[:len(b)-4]
	for _, part := range [][]byte{nil, head[1:], head[:1], head[:len(head)-1], head[1:5], head[:5], b} {
		wantRefused(t, binary.BigEndian.AppendUint32(bytes.Clone(head), crc32.ChecksumIEEE(part)), api.ErrSum)
	}
	wantRefused(t, binary.LittleEndian.AppendUint32(bytes.Clone(head), crc32.ChecksumIEEE(head)), api.ErrSum)
	wantRefused(t, binary.BigEndian.AppendUint32(bytes.Clone(head), ^crc32.ChecksumIEEE(head)), api.ErrSum)
	wantRefused(t, append(bytes.Clone(head), 0, 0, 0, 0), api.ErrSum)
}

// A list that is not right is refused whatever its sum is.
func TestGetOfWrongLists(t *testing.T) {
	for _, l := range wrongBytes() {
		wantRefused(t, told(l...), api.ErrForm)
	}
}

// Each byte turned to each other byte: the first says another length, each other one asks for another sum.
func TestGetOfBytesTurned(t *testing.T) {
	for _, l := range [][]int64{{0}, {258}, {0, api.MaxSeq}, {1, 2, 3}, row(0, 300, api.MaxSegments)} {
		b := told(l...)
		for i := range b {
			for turn := 1; turn < 256; turn++ {
				c := bytes.Clone(b)
				c[i] ^= byte(turn)
				want := api.ErrSum
				if i == 0 {
					want = api.ErrForm
				}
				wantRefused(t, c, want)
			}
		}
	}
}
