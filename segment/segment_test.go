package segment_test

import (
	"bytes"
	"encoding/binary"
	"encoding/hex"
	"fmt"
	"hash/crc32"
	"math"
	"math/rand/v2"
	"regexp"
	"slices"
	"strconv"
	"testing"

	"governor/api"
	"governor/segment"
)

// summed is bytes with their sum behind them.
func summed(b []byte) []byte {
	return binary.BigEndian.AppendUint32(bytes.Clone(b), crc32.ChecksumIEEE(b))
}

// headOf is a head with these first four bytes and that first number, with the sum that they ask for, be they right or not.
func headOf(magic string, first uint32) []byte {
	return summed(binary.BigEndian.AppendUint32([]byte(magic), first))
}

// rowOf is frames' bytes, one behind the other, by the words alone, be their numbers right or not.
func rowOf(frames []api.Frame) []byte {
	var row []byte
	for _, f := range frames {
		b := binary.BigEndian.AppendUint16(nil, uint16(len(f.Body)))
		b = binary.BigEndian.AppendUint32(append(b, byte(f.Type)), uint32(f.Seq))
		row = append(row, summed(append(b, f.Body...))...)
	}
	return row
}

// segmentOf is a segment's bytes: the head of first, and frames.
func segmentOf(first int64, frames []api.Frame) []byte {
	return append(headOf("GOV1", uint32(first)), rowOf(frames)...)
}

func randomBytes(r *rand.Rand, n int) []byte {
	b := make([]byte, n)
	for i := range b {
		b[i] = byte(r.IntN(256))
	}
	return b
}

// rising is n right frames whose numbers go on from first.
func rising(r *rand.Rand, first int64, n int) []api.Frame {
	var frames []api.Frame
	for i := range n {
		frames = append(frames, api.Frame{Type: 1 + r.IntN(15), Seq: first + int64(i), Body: randomBytes(r, r.IntN(20)*r.IntN(2))})
	}
	return frames
}

// numbered is frames of these numbers, whatever their order.
func numbered(seqs ...int64) []api.Frame {
	var frames []api.Frame
	for i, seq := range seqs {
		frames = append(frames, api.Frame{Type: 1 + i%15, Seq: seq, Body: []byte(strconv.Itoa(i))})
	}
	return frames
}

// begins is where each of frames begins in a segment of these.
func begins(frames []api.Frame) []int {
	at := []int{12}
	for _, f := range frames {
		at = append(at, at[len(at)-1]+11+len(f.Body))
	}
	return at[:len(frames)]
}

func alike(a, b api.Frame) bool {
	return a.Type == b.Type && a.Seq == b.Seq && bytes.Equal(a.Body, b.Body)
}

// wantRead asks for that first number, these frames and so many bytes.
func wantRead(t *testing.T, b []byte, first int64, frames []api.Frame, n int) {
	t.Helper()
	got, l, m, e := segment.Read(b)
	if got != first || !slices.EqualFunc(l, frames, alike) || m != n || e != api.OK {
		t.Errorf("Read of %d bytes: first %d, %d frames, %d bytes, error %d, not %d, %d, %d", len(b), got, len(l), m, e, first, len(frames), n)
	}
}

// wantRefused asks for that error of Read, for nothing beside it, and for no index.
func wantRefused(t *testing.T, b []byte, want api.Errno) {
	t.Helper()
	first, l, n, e := segment.Read(b)
	if e != want {
		t.Errorf("Read of %d bytes %.20x: error %d, not %d", len(b), b, e, want)
	}
	if first != 0 || len(l) != 0 || n != 0 {
		t.Errorf("Read of %d bytes %.20x: %d, %d frames, %d bytes beside error %d", len(b), b, first, len(l), n, e)
	}
	for _, every := range []int{1, 2, 0} {
		wantIndex(t, b, every, nil)
	}
}

func wantIndex(t *testing.T, b []byte, every int, want []api.Spot) {
	t.Helper()
	if got := segment.Index(b, every); !slices.Equal(got, want) {
		t.Errorf("Index of %d bytes by %d: %v, not %v", len(b), every, got, want)
	}
}

func wantFound(t *testing.T, b []byte, l []api.Spot, want api.Frame) {
	t.Helper()
	if f, is := segment.Find(b, l, want.Seq); !is || !alike(f, want) {
		t.Errorf("Find of %d by %v: %v, %t, not %v", want.Seq, l, f, is, want)
	}
}

func wantNotFound(t *testing.T, b []byte, l []api.Spot, seq int64) {
	t.Helper()
	if f, is := segment.Find(b, l, seq); is || f.Type != 0 || f.Seq != 0 || len(f.Body) != 0 {
		t.Errorf("Find of %d by %v: %v, %t", seq, l, f, is)
	}
}

// someFirsts is right first numbers, at their bounds and between.
func someFirsts() []int64 {
	firsts := []int64{0, 1, 2, 9, 10, 11, 12, 99, 100, 255, 256, 65535, 65536, 1<<24 - 1, 1 << 24, 999999999, 1000000000, api.MaxSeq - 1, api.MaxSeq}
	r := rand.New(rand.NewPCG(4, 1))
	for range 200 {
		firsts = append(firsts, r.Int64N(api.MaxSeq+1))
	}
	return firsts
}

// wrongFirsts is numbers that no segment's first frame has.
func wrongFirsts() []int64 {
	return []int64{-1, -2, -12, -api.MaxSeq, api.MaxSeq + 1, api.MaxSeq + 2, 1 << 31, 9999999999, 1 << 32, 1<<32 + 1, 1<<32 + 12, 10000000000, math.MaxInt64, math.MinInt64}
}

// P4.1, D1: names

func TestName(t *testing.T) {
	for want, first := range map[string]int64{
		"s0000000000": 0, "s0000000001": 1, "s0000000009": 9, "s0000000010": 10, "s0000000012": 12, "s0000000255": 255,
		"s0123456789": 123456789, "s1000000000": 1000000000, "s1073741823": api.MaxSeq - 1, "s1073741824": api.MaxSeq,
	} {
		if got := segment.Name(first); got != want {
			t.Errorf("Name of %d: %q", first, got)
		}
		if got, is := segment.First(want); got != first || !is {
			t.Errorf("First of %q: %d, %t", want, got, is)
		}
	}
}

func TestNameThereAndBack(t *testing.T) {
	for _, first := range someFirsts() {
		name := segment.Name(first)
		if want := fmt.Sprintf("s%010d", first); name != want {
			t.Errorf("Name of %d: %q", first, name)
		}
		if got, is := segment.First(name); got != first || !is {
			t.Errorf("First of %q: %d, %t", name, got, is)
		}
	}
}

// Names stand in the order of their numbers, as a disk lists them.
func TestNamesRise(t *testing.T) {
	firsts := someFirsts()
	slices.Sort(firsts)
	for i, first := range firsts[1:] {
		if a, b := segment.Name(firsts[i]), segment.Name(first); first != firsts[i] && a >= b || len(b) > api.MaxName {
			t.Errorf("%q is not ahead of %q", a, b)
		}
	}
}

func TestNameOfWrongFirsts(t *testing.T) {
	for _, first := range wrongFirsts() {
		if name := segment.Name(first); name != "" {
			t.Errorf("Name of %d: %q", first, name)
		}
	}
}

func wantNoFirst(t *testing.T, name string) {
	t.Helper()
	if first, is := segment.First(name); first != 0 || is {
		t.Errorf("First of %q: %d, %t", name, first, is)
	}
}

func TestFirstOfNoNames(t *testing.T) {
	for _, name := range []string{
		"", "s", "0", "s0", "s1", "s12", "12", "s000000000", "s000000012", "s00000000000", "s00000000012", "s000000000012", "s1000000001234567890123456789",
		"0000000000", "0000000012", "00000000012", "x0000000012", "S0000000012", "t0000000012", "-0000000012", "ss000000012", "s0000000012s", " s0000000012", "s0000000012 ", "s0000000012\n", "s0000000012\x00", "\x00s0000000012",
		"s+000000012", "s+0000000012", "s-000000012", "s-000000001", "s-000000000", "s-0000000001", "+s0000000012", "-s0000000012", "s 000000012", "s000000 012",
		"s000000001x", "sx000000012", "s000000000a", "s0x00000012", "s0b00000001", "s0o00000012", "s0_00000012", "s00000_0012", "s0000000.12", "s00000001e1", "s000000012.", "s0000000012.0",
		"s٠٠٠٠٠", "s000000００", "s00000000\xff\xff", "ſ0000000012",
		"s1073741825", "s1073741834", "s1073741924", "s2000000000", "s2147483648", "s4294967296", "s9999999999", "s9223372036854775808", "s18446744073709551628", "s18446744073709551616",
		"manifest", "manifest.tmp", "fix.tmp", "s", "seg0000000012",
	} {
		wantNoFirst(t, name)
	}
}

// The words once more: which names there are, whatever one byte of them is turned into, taken out or laid between.
func TestFirstOfNamesWithOneByteTurned(t *testing.T) {
	form := regexp.MustCompile(`^s[0-9]{10}$`)
	ask := func(name string) {
		t.Helper()
		n, _ := strconv.ParseInt(name[min(1, len(name)):], 10, 64)
		if !form.MatchString(name) || n > api.MaxSeq {
			wantNoFirst(t, name)
		} else if first, is := segment.First(name); first != n || !is {
			t.Errorf("First of %q: %d, %t", name, first, is)
		}
	}
	for _, name := range []string{"s0000000000", "s0000000012", "s1073741824", "s0999999999"} {
		for i := range name {
			ask(name[:i] + name[i+1:])
			for c := range 256 {
				ask(name[:i] + string([]byte{byte(c)}) + name[i+1:])
				ask(name[:i] + string([]byte{byte(c)}) + name[i:])
				ask(name + string([]byte{byte(c)}))
			}
		}
	}
}

// P4.1, D1: heads

func TestKnownHeads(t *testing.T) {
	for want, first := range map[string]int64{
		"474f563100000000b2af6bd1": 0,
		"474f56310000000cbb1927fa": 12,
		"474f56310102030425d74f00": 0x01020304,
		"474f56314000000029bb33ec": api.MaxSeq,
	} {
		if got := hex.EncodeToString(segment.Head(first)); got != want {
			t.Errorf("Head of %d: %s, not %s", first, got, want)
		}
	}
}

func TestHead(t *testing.T) {
	for _, first := range someFirsts() {
		got := segment.Head(first)
		if want := headOf("GOV1", uint32(first)); !bytes.Equal(got, want) || len(got) != api.HeadSize {
			t.Errorf("Head of %d: %x, not %x", first, got, want)
		}
		wantRead(t, got, first, nil, 12)
	}
}

func TestHeadOfWrongFirsts(t *testing.T) {
	for _, first := range wrongFirsts() {
		if b := segment.Head(first); len(b) != 0 {
			t.Errorf("Head of %d: %x", first, b)
		}
	}
}

// P4.1, D2: what is read

func TestReadOfSegments(t *testing.T) {
	r := rand.New(rand.NewPCG(4, 2))
	for _, first := range []int64{0, 1, 12, 255, 65530, api.MaxSeq - 50} {
		for _, n := range []int{0, 1, 2, 3, 10, 40} {
			frames := rising(r, first, n)
			b := segmentOf(first, frames)
			wantRead(t, b, first, frames, len(b))
		}
	}
}

// The frame of the greatest number is the last there can be.
func TestReadAtTheGreatestNumber(t *testing.T) {
	frames := numbered(api.MaxSeq-1, api.MaxSeq, api.MaxSeq+1, 0)
	b := segmentOf(api.MaxSeq-1, frames)
	wantRead(t, b, api.MaxSeq-1, frames[:2], 12+2*12)
	wantRead(t, segmentOf(api.MaxSeq, frames[1:]), api.MaxSeq, frames[1:2], 12+12)
	wantRead(t, segmentOf(api.MaxSeq, nil), api.MaxSeq, nil, 12)
}

func TestReadOfGreatFrames(t *testing.T) {
	var frames []api.Frame
	for i := range 40 {
		frames = append(frames, api.Frame{Type: 15, Seq: int64(i), Body: bytes.Repeat([]byte{byte(i)}, api.MaxBody)})
	}
	b := segmentOf(0, frames)
	wantRead(t, b, 0, frames, len(b))
}

// Fewer than 12 bytes are told ahead of all else, whatever they are.
func TestReadOfTooFewBytes(t *testing.T) {
	for _, b := range [][]byte{nil, {}, {'G'}, []byte("GOV1"), []byte("GOV2"), make([]byte, 11), bytes.Repeat([]byte{255}, 11), rowOf(numbered(0))[:11]} {
		wantRefused(t, b, api.ErrEnd)
	}
	for _, head := range [][]byte{headOf("GOV1", 12), headOf("GOV1", api.MaxSeq+1), headOf("gov1", 12)} {
		for i := range head {
			wantRefused(t, head[:i], api.ErrEnd)
		}
	}
}

// Other first bytes are told ahead of another sum, and of a first number that may not be.
func TestReadOfOtherFirstBytes(t *testing.T) {
	for _, magic := range []string{"gov1", "GOV2", "GOV\x01", "GOV0", "1VOG", "VOG1", " GOV", "\x00\x00\x00\x00", "OV1\x00", "GGOV"} {
		for _, first := range []uint32{0, 12, api.MaxSeq, api.MaxSeq + 1, math.MaxUint32} {
			b := headOf(magic, first)
			wantRefused(t, b, api.ErrForm)
			b[11] ^= 1
			wantRefused(t, b, api.ErrForm)
			wantRefused(t, append(b, rowOf(numbered(int64(first)))...), api.ErrForm)
		}
	}
	wantRefused(t, make([]byte, 12), api.ErrForm)
	wantRefused(t, rowOf(numbered(0, 1)), api.ErrForm)
}

// Another sum is told ahead of a first number that may not be.
func TestReadOfAnotherSum(t *testing.T) {
	for _, first := range []uint32{0, 12, api.MaxSeq, api.MaxSeq + 1, math.MaxUint32} {
		for bit := range 32 {
			b := headOf("GOV1", first)
			b[8+bit/8] ^= 1 << (bit % 8)
			wantRefused(t, b, api.ErrSum)
			wantRefused(t, append(b, rowOf(numbered(int64(first)))...), api.ErrSum)
		}
	}
}

// The sum is of the eight bytes ahead of it, and of nothing else.
func TestReadOfTheSumOfOtherBytes(t *testing.T) {
	b := headOf("GOV1", 12)
	for _, part := range [][]byte{nil, b[:4], b[4:8], b[1:8], b[:7], b} {
		wantRefused(t, binary.BigEndian.AppendUint32(bytes.Clone(b[:8]), crc32.ChecksumIEEE(part)), api.ErrSum)
	}
	wantRefused(t, binary.LittleEndian.AppendUint32(bytes.Clone(b[:8]), crc32.ChecksumIEEE(b[:8])), api.ErrSum)
}

// A first number above MaxSeq, with the sum that it asks for.
func TestReadOfAWrongFirst(t *testing.T) {
	for _, first := range []uint32{api.MaxSeq + 1, api.MaxSeq + 2, 1<<31 - 1, 1 << 31, 1<<31 + 12, math.MaxUint32 - 1, math.MaxUint32} {
		wantRefused(t, headOf("GOV1", first), api.ErrForm)
		wantRefused(t, append(headOf("GOV1", first), rowOf(numbered(int64(first)))...), api.ErrForm)
	}
}

// Each byte of a head turned to each other byte: what it tells is told by where it stands.
func TestReadOfHeadsWithOneByteTurned(t *testing.T) {
	b := segmentOf(12, numbered(12, 13))
	for i := range 12 {
		for turn := 1; turn < 256; turn++ {
			c := bytes.Clone(b)
			c[i] ^= byte(turn)
			want := api.ErrSum
			if i < 4 {
				want = api.ErrForm
			}
			wantRefused(t, c, want)
		}
	}
}

// The numbers of the frames go on from the head's, wherever they could go on from.
func TestReadOfFramesOfOtherNumbers(t *testing.T) {
	for _, off := range []int64{-12, -2, -1, 1, 2, 100} {
		wantRead(t, segmentOf(12, numbered(12+off, 13+off, 14+off)), 12, nil, 12)
		for n := range 4 {
			frames := numbered(12, 13, 14, 15, 16)
			for i := n; i < 5; i++ {
				frames[i].Seq += off
			}
			wantRead(t, segmentOf(12, frames), 12, frames[:n], 12+n*12)
		}
	}
}

// P4.1, D3: the index

func TestIndexOfKnownSegments(t *testing.T) {
	b := segmentOf(12, []api.Frame{{Type: 1, Seq: 12, Body: []byte("a")}, {Type: 2, Seq: 13}, {Type: 3, Seq: 14, Body: []byte("ccc")}, {Type: 4, Seq: 15, Body: []byte("dd")}})
	for every, want := range map[int][]api.Spot{
		1: {{Seq: 12, At: 12}, {Seq: 13, At: 24}, {Seq: 14, At: 35}, {Seq: 15, At: 49}},
		2: {{Seq: 12, At: 12}, {Seq: 14, At: 35}},
		3: {{Seq: 12, At: 12}, {Seq: 15, At: 49}},
		4: {{Seq: 12, At: 12}},
		5: {{Seq: 12, At: 12}}, 100: {{Seq: 12, At: 12}}, math.MaxInt: {{Seq: 12, At: 12}},
		0: nil, -1: nil, -2: nil, math.MinInt: nil,
	} {
		wantIndex(t, b, every, want)
	}
}

// Which frames are told hangs on their places, not on their numbers.
func TestIndex(t *testing.T) {
	r := rand.New(rand.NewPCG(4, 3))
	for _, first := range []int64{0, 1, 5, 12, api.MaxSeq - 20} {
		for _, n := range []int{0, 1, 2, 3, 7, 20} {
			frames := rising(r, first, n)
			b := segmentOf(first, frames)
			at := begins(frames)
			for every := 1; every < n+3; every++ {
				var want []api.Spot
				for i := 0; i < n; i += every {
					want = append(want, api.Spot{Seq: frames[i].Seq, At: at[i]})
				}
				wantIndex(t, b, every, want)
			}
			wantIndex(t, b, 0, nil)
			wantIndex(t, b, -1, nil)
		}
	}
}

// Only the frames that Read tells: what stands behind these is not told, be it a frame or not.
func TestIndexEndsWhereReadDoes(t *testing.T) {
	spots := []api.Spot{{Seq: 5, At: 12}, {Seq: 6, At: 24}}
	b := segmentOf(5, numbered(5, 6))
	for _, behind := range [][]byte{{0}, {0, 0}, make([]byte, 30), rowOf(numbered(7))[:11], rowOf(numbered(6)), rowOf(numbered(8, 9)), rowOf(numbered(4)), slices.Concat([]byte{0, 0}, rowOf(numbered(7)))} {
		wantIndex(t, slices.Concat(b, behind), 1, spots)
		wantIndex(t, slices.Concat(b, behind), 2, spots[:1])
	}
	wantIndex(t, segmentOf(5, numbered(6, 7)), 1, nil)
	wantIndex(t, segmentOf(5, nil), 1, nil)
}

// P4.1, D3: what is found

func TestFindFromAnyPlace(t *testing.T) {
	frames := numbered(12, 13, 14, 15, 16)
	b := segmentOf(12, frames)
	for i, at := range begins(frames) {
		l := []api.Spot{{Seq: 0, At: at}}
		for j, f := range frames {
			if j < i {
				wantNotFound(t, b, l, f.Seq)
			} else {
				wantFound(t, b, l, f)
			}
		}
	}
}

func TestFindByNoIndex(t *testing.T) {
	for _, b := range [][]byte{segmentOf(0, numbered(0, 1, 2)), rowOf(numbered(0, 1, 2))} {
		for seq := int64(-1); seq < 4; seq++ {
			wantNotFound(t, b, nil, seq)
			wantNotFound(t, b, []api.Spot{}, seq)
			wantNotFound(t, b, []api.Spot{{Seq: seq + 1, At: 0}}, seq)
		}
	}
}

// An index that begins above what is sought tells no place.
func TestFindAheadOfTheIndex(t *testing.T) {
	b := segmentOf(10, numbered(10, 11, 12, 13))
	for seq := int64(9); seq < 13; seq++ {
		wantNotFound(t, b, []api.Spot{{Seq: seq + 1, At: 12}}, seq)
		wantNotFound(t, b, []api.Spot{{Seq: seq + 1, At: 12}, {Seq: seq + 2, At: 12}, {Seq: math.MaxInt64, At: 12}}, seq)
	}
	wantFound(t, b, []api.Spot{{Seq: 13, At: 12}}, api.Frame{Type: 4, Seq: 13, Body: []byte("3")})
	wantFound(t, b, []api.Spot{{Seq: math.MinInt64, At: 12}}, api.Frame{Type: 1, Seq: 10, Body: []byte("0")})
}

// A place that is none: below 0, behind the end, just at it, and within a frame.
func TestFindFromNoPlace(t *testing.T) {
	b := segmentOf(10, numbered(10, 11, 12))
	for _, at := range []int{-1, -12, math.MinInt, 0, 3, 11, 13, 20, 23, 25, len(b) - 12 + 1, len(b) - 1, len(b), len(b) + 1, len(b) + 12, 1 << 31, 1 << 32, 1<<32 + 12, 1 << 40, math.MaxInt} {
		for seq := int64(9); seq < 14; seq++ {
			wantNotFound(t, b, []api.Spot{{Seq: 0, At: at}}, seq)
			wantNotFound(t, b, []api.Spot{{Seq: 0, At: 12}, {Seq: 0, At: at}}, seq)
		}
	}
	for _, none := range [][]byte{nil, {}, {0}} {
		for at := -1; at < 3; at++ {
			wantNotFound(t, none, []api.Spot{{Seq: 0, At: at}}, 0)
		}
	}
}

// The spare room behind the bytes is no place.
func TestFindReadsNoSpareRoom(t *testing.T) {
	b := segmentOf(10, numbered(10, 11, 12))
	for n := range b {
		for _, at := range []int{12, 24, 36} {
			for seq := int64(10); seq < 13; seq++ {
				if end := int(seq-9)*12 + 12; end > n || at > end-12 {
					wantNotFound(t, b[:n], []api.Spot{{Seq: 0, At: at}}, seq)
				}
			}
		}
	}
}

// The last spot in the list's own order, be that by numbers or not; and it alone.
func TestFindGoesFromTheLastSpotThatIsNotAbove(t *testing.T) {
	frames := numbered(10, 11, 12, 13, 14)
	b := segmentOf(10, frames)
	at := begins(frames)
	for _, l := range [][]api.Spot{
		{{Seq: 12, At: 12}, {Seq: 11, At: at[3]}},
		{{Seq: 10, At: 12}, {Seq: 12, At: at[3]}},
		{{Seq: 12, At: 12}, {Seq: 12, At: at[4]}},
		{{Seq: 12, At: 12}, {Seq: 3, At: -1}},
		{{Seq: 12, At: 12}, {Seq: 3, At: len(b) + 1}, {Seq: 13, At: 12}},
		{{Seq: 12, At: 12}, {Seq: 12, At: 13}, {Seq: 14, At: 12}, {Seq: 13, At: 12}},
	} {
		wantNotFound(t, b, l, 12)
	}
	for _, l := range [][]api.Spot{
		{{Seq: 11, At: at[3]}, {Seq: 12, At: 12}},
		{{Seq: 13, At: at[3]}, {Seq: 10, At: 12}},
		{{Seq: 10, At: 12}, {Seq: 13, At: at[3]}, {Seq: 14, At: -1}},
		{{Seq: 12, At: -1}, {Seq: 12, At: at[2]}, {Seq: 13, At: at[4]}},
		{{Seq: 0, At: 1 << 40}, {Seq: -5, At: 12}},
	} {
		wantFound(t, b, l, frames[2])
	}
}

// Numbers that are ahead of the first, behind the last, and left out.
func TestFindOfNumbersThatAreNotThere(t *testing.T) {
	frames := numbered(10, 12, 13, 17)
	b := segmentOf(10, frames)
	l := []api.Spot{{Seq: math.MinInt64, At: 12}}
	for _, f := range frames {
		wantFound(t, b, l, f)
	}
	for _, seq := range []int64{-1, 0, 9, 11, 14, 15, 16, 18, api.MaxSeq, api.MaxSeq + 1, 10 + 1<<32, math.MaxInt64, -10, math.MinInt64} {
		wantNotFound(t, b, l, seq)
	}
}

// A number above ends it, also where what is sought stands behind that; numbers below do not, in whatever order.
func TestFindInOtherOrders(t *testing.T) {
	l := []api.Spot{{Seq: 0, At: 12}}
	frames := numbered(5, 3, 4, 8, 6, 5, 9)
	b := segmentOf(5, frames)
	wantFound(t, b, l, frames[0])
	wantFound(t, b, l, frames[3])
	wantFound(t, b, l, frames[6])
	for _, seq := range []int64{3, 4, 6, 7, 10} {
		wantNotFound(t, b, l, seq)
	}
	wantFound(t, segmentOf(0, numbered(7, 7, 7)), l, api.Frame{Type: 1, Seq: 7, Body: []byte("0")})
}

// What is no frame ends it, also where frames stand behind.
func TestFindEndsAtWhatIsNoFrame(t *testing.T) {
	frames := numbered(10, 11, 12, 13)
	l := []api.Spot{{Seq: 0, At: 12}}
	for _, none := range [][]byte{{0}, {255, 255}, make([]byte, 11), rowOf([]api.Frame{{Type: 0, Seq: 11}}), rowOf([]api.Frame{{Type: 16, Seq: 11}}), rowOf([]api.Frame{{Type: 1, Seq: api.MaxSeq + 1}}), summed(make([]byte, 8)), rowOf(frames[1:2])[:11]} {
		b := slices.Concat(segmentOf(10, frames[:2]), none, rowOf(frames[2:]))
		wantFound(t, b, l, frames[0])
		wantFound(t, b, l, frames[1])
		wantNotFound(t, b, l, 12)
		wantNotFound(t, b, l, 13)
	}
}

// Frames are looked for in any bytes: with no head, with one that is none, and within a frame's Body.
func TestFindAsksForNoHead(t *testing.T) {
	frames := numbered(0, 1, 2)
	row := rowOf(frames)
	for _, f := range frames {
		wantFound(t, row, []api.Spot{{Seq: 0, At: 0}}, f)
		wantFound(t, append(headOf("none", api.MaxSeq+1), row...), []api.Spot{{Seq: 0, At: 12}}, f)
		wantFound(t, rowOf([]api.Frame{{Type: 3, Seq: 9, Body: row}}), []api.Spot{{Seq: 0, At: 7}}, f)
	}
	wantNotFound(t, segmentOf(0, frames), []api.Spot{{Seq: 0, At: 0}}, 0)
}
