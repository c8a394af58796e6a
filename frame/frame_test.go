package frame_test

import (
	"bytes"
	"encoding/binary"
	"encoding/hex"
	"hash/crc32"
	"math"
	"math/rand/v2"
	"slices"
	"testing"

	"governor/api"
	"governor/frame"
)

// summed is bytes with their sum behind them.
func summed(b []byte) []byte {
	return binary.BigEndian.AppendUint32(bytes.Clone(b), crc32.ChecksumIEEE(b))
}

// told is bytes in a frame's form, with the sum that they ask for, be the numbers right or not.
func told(kind byte, seq uint32, body []byte) []byte {
	b := binary.BigEndian.AppendUint16(nil, uint16(len(body)))
	b = binary.BigEndian.AppendUint32(append(b, kind), seq)
	return summed(append(b, body...))
}

// sized is n bytes of noughts that say that Body has size bytes.
func sized(size int, n int) []byte {
	b := make([]byte, n)
	binary.BigEndian.PutUint16(b, uint16(size))
	return b
}

func randomBytes(r *rand.Rand, n int) []byte {
	b := make([]byte, n)
	for i := range b {
		b[i] = byte(r.IntN(256))
	}
	return b
}

// oneOf is a right frame, at the bounds of its numbers more often than not.
func oneOf(r *rand.Rand) api.Frame {
	kinds := []int{1, 2, 14, 15, 1 + r.IntN(15)}
	seqs := []int64{0, 1, 255, 256, 65535, 65536, 1 << 24, api.MaxSeq - 1, api.MaxSeq, r.Int64N(api.MaxSeq + 1)}
	sizes := []int{0, 1, 2, 255, 256, 257, api.MaxBody - 1, api.MaxBody, r.IntN(50), r.IntN(api.MaxBody + 1)}
	return api.Frame{Type: kinds[r.IntN(5)], Seq: seqs[r.IntN(10)], Body: randomBytes(r, sizes[r.IntN(10)])}
}

// someFrames is right frames of which each number stands at its bounds, and some between.
func someFrames() []api.Frame {
	r := rand.New(rand.NewPCG(3, 1))
	frames := []api.Frame{{Type: 1}, {Type: 15, Seq: api.MaxSeq, Body: bytes.Repeat([]byte{255}, api.MaxBody)}}
	for _, size := range []int{0, 1, 2, 255, 256, 1799, api.MaxBody} {
		frames = append(frames, api.Frame{Type: 7, Seq: 5, Body: randomBytes(r, size)})
	}
	for kind := 1; kind <= api.MaxType; kind++ {
		frames = append(frames, api.Frame{Type: kind, Seq: 5, Body: []byte("kind")})
	}
	for _, seq := range []int64{0, 1, 255, 256, 257, 65535, 65536, 1<<24 - 1, 1 << 24, api.MaxSeq - 1, api.MaxSeq} {
		frames = append(frames, api.Frame{Type: 1, Seq: seq, Body: []byte("seq")})
	}
	for range 30 {
		frames = append(frames, oneOf(r))
	}
	return frames
}

// wrongFrames is each with one thing, or more, that is not right.
func wrongFrames() []api.Frame {
	body := []byte("body")
	return []api.Frame{
		{}, {Type: 0, Seq: 1, Body: body}, {Type: 16, Seq: 1, Body: body}, {Type: 17}, {Type: -1, Seq: 1, Body: body},
		{Type: 256 + 1, Seq: 1}, {Type: 1 << 32}, {Type: math.MaxInt}, {Type: math.MinInt},
		{Type: 1, Seq: -1, Body: body}, {Type: 1, Seq: api.MaxSeq + 1, Body: body}, {Type: 1, Seq: 1 << 31}, {Type: 1, Seq: 1 << 32},
		{Type: 1, Seq: 1<<32 + 1}, {Type: 1, Seq: math.MaxInt64}, {Type: 1, Seq: math.MinInt64},
		{Type: 1, Seq: 1, Body: make([]byte, api.MaxBody+1)}, {Type: 1, Seq: 1, Body: make([]byte, 65535)}, {Type: 1, Seq: 1, Body: make([]byte, 65536)},
		{Type: 1, Seq: 1, Body: make([]byte, 65536+3)}, {Type: 16, Seq: -1, Body: make([]byte, api.MaxBody+1)},
	}
}

func alike(a, b api.Frame) bool {
	return a.Type == b.Type && a.Seq == b.Seq && bytes.Equal(a.Body, b.Body)
}

func tell(f api.Frame) []any { return []any{f.Type, f.Seq, len(f.Body)} }

// wantGot asks that b begins with f, of n bytes.
func wantGot(t *testing.T, b []byte, f api.Frame, n int) {
	t.Helper()
	got, m, e := frame.Get(b)
	if e != api.OK || m != n || !alike(got, f) {
		t.Errorf("Get of %d bytes: %v of %d bytes, error %d, not %v of %d", len(b), tell(got), m, e, tell(f), n)
	}
}

// wantRefused asks for that error, and for nothing beside it.
func wantRefused(t *testing.T, b []byte, want api.Errno) {
	t.Helper()
	f, n, e := frame.Get(b)
	if e != want {
		t.Errorf("Get of %d bytes %.20x: error %d, not %d", len(b), b, e, want)
	}
	if f.Type != 0 || f.Seq != 0 || len(f.Body) != 0 || n != 0 {
		t.Errorf("Get of %d bytes %.20x: %v of %d bytes beside error %d", len(b), b, tell(f), n, e)
	}
}

// wantScan asks for just these frames, and their bytes.
func wantScan(t *testing.T, b []byte, first int64, frames []api.Frame) {
	t.Helper()
	got, n := frame.Scan(b, first)
	if want := len(row(frames)); n != want {
		t.Errorf("Scan of %d bytes from %d: %d bytes, not %d", len(b), first, n, want)
	}
	if !slices.EqualFunc(got, frames, alike) {
		t.Errorf("Scan of %d bytes from %d: %d frames, not the %d that stand there", len(b), first, len(got), len(frames))
	}
}

// row is frames' bytes, one behind the other, by the words alone.
func row(frames []api.Frame) []byte {
	var b []byte
	for _, f := range frames {
		b = append(b, told(byte(f.Type), uint32(f.Seq), f.Body)...)
	}
	return b
}

// P3.1, C1

func TestRight(t *testing.T) {
	for _, f := range someFrames() {
		if !frame.Right(f) {
			t.Error("not right:", tell(f))
		}
	}
	for _, f := range wrongFrames() {
		if frame.Right(f) {
			t.Error("right:", tell(f))
		}
	}
}

func TestPutOfKnownFrames(t *testing.T) {
	for want, f := range map[string]api.Frame{
		"00000100000000a00cf6ce":         {Type: 1},
		"00020200000102616257d1eb63":     {Type: 2, Seq: 258, Body: []byte("ab")},
		"00040f40000000ff00ff00d969e729": {Type: 15, Seq: api.MaxSeq, Body: []byte{255, 0, 255, 0}},
		"0003070a0b0c0d3132335ee67d3b":   {Type: 7, Seq: 0x0a0b0c0d, Body: []byte("123")},
		"000106000100007a1d60c887":       {Type: 6, Seq: 65536, Body: []byte("z")},
		"00000a000000fffade2852":         {Type: 10, Seq: 255, Body: []byte{}},
	} {
		if b := hex.EncodeToString(frame.Put(f)); b != want {
			t.Errorf("Put of %v: %s, not %s", tell(f), b, want)
		}
		b, _ := hex.DecodeString(want)
		wantGot(t, b, f, len(b))
	}
}

func TestPutIsItsBytes(t *testing.T) {
	for _, f := range someFrames() {
		if got, want := frame.Put(f), told(byte(f.Type), uint32(f.Seq), f.Body); !bytes.Equal(got, want) {
			t.Errorf("Put of %v: %.40x, not %.40x", tell(f), got, want)
		}
	}
}

func TestSizeOfBytes(t *testing.T) {
	for _, f := range someFrames() {
		if n := len(frame.Put(f)); n != 11+len(f.Body) {
			t.Errorf("Put of %v: %d bytes", tell(f), n)
		}
	}
}

func TestPutOfWrongFrames(t *testing.T) {
	for _, f := range wrongFrames() {
		if b := frame.Put(f); len(b) != 0 {
			t.Errorf("Put of %v: %d bytes", tell(f), len(b))
		}
	}
}

// P3.1, C2

func TestGet(t *testing.T) {
	for _, f := range someFrames() {
		b := told(byte(f.Type), uint32(f.Seq), f.Body)
		wantGot(t, b, f, len(b))
	}
}

func TestGetOfTooFewBytesForASize(t *testing.T) {
	for _, b := range [][]byte{nil, {}, {0}, {1}, {7}, {8}, {255}} {
		wantRefused(t, b, api.ErrEnd)
	}
}

// A size that may not be goes ahead of bytes that are not there, and of a wrong sum.
func TestGetOfTooGreatASize(t *testing.T) {
	for _, size := range []int{api.MaxBody + 1, api.MaxBody + 2, 2048, 1 << 15, 65535} {
		for _, n := range []int{2, 3, 10, 11, 1811, 1812, 1813, size + 10, size + 11, size + 12} {
			wantRefused(t, sized(size, n), api.ErrForm)
		}
		wantRefused(t, told(1, 1, make([]byte, size)), api.ErrForm)
		wantRefused(t, told(0, 1, make([]byte, size)), api.ErrForm)
	}
}

// Bytes that are not there go ahead of a wrong sum, a wrong Type and a wrong Seq.
func TestGetOfTooFewBytes(t *testing.T) {
	for _, size := range []int{0, 1, 255, 256, 1799, api.MaxBody} {
		for _, n := range []int{2, 3, 6, 7, 10, size + 7, size + 10} {
			wantRefused(t, sized(size, min(n, size+10)), api.ErrEnd)
		}
		for _, b := range [][]byte{told(0, 1, make([]byte, size)), told(16, 1<<31, make([]byte, size)), told(1, 1, make([]byte, size))} {
			wantRefused(t, b[:len(b)-1], api.ErrEnd)
			wantRefused(t, b[:2], api.ErrEnd)
		}
	}
}

// A wrong sum goes ahead of a wrong Type and a wrong Seq.
func TestGetOfAnotherSum(t *testing.T) {
	for _, kind := range []byte{0, 1, 15, 16, 255} {
		for _, seq := range []uint32{0, api.MaxSeq, api.MaxSeq + 1, 1<<32 - 1} {
			for bit := range 32 {
				b := told(kind, seq, []byte("body"))
				b[len(b)-1-bit/8] ^= 1 << (bit % 8)
				wantRefused(t, b, api.ErrSum)
				wantRefused(t, append(b, 1, 2, 3), api.ErrSum)
			}
		}
	}
	for _, size := range []int{0, 1, 2, api.MaxBody} {
		wantRefused(t, sized(size, size+11), api.ErrSum)
	}
}

// The sum is of all that stands ahead of it, and of nothing else.
func TestGetOfTheSumOfOtherBytes(t *testing.T) {
	whole := told(1, 1, []byte("body"))
	b := whole[:len(whole)-4]
	for _, part := range [][]byte{nil, b[1:], b[2:], b[3:], b[7:], b[:7], b[:len(b)-1], whole} {
		wantRefused(t, binary.BigEndian.AppendUint32(bytes.Clone(b), crc32.ChecksumIEEE(part)), api.ErrSum)
	}
	wantRefused(t, binary.LittleEndian.AppendUint32(bytes.Clone(b), crc32.ChecksumIEEE(b)), api.ErrSum)
}

func TestGetOfAWrongTypeOrSeq(t *testing.T) {
	for kind := range 256 {
		for _, seq := range []uint32{0, 1, api.MaxSeq - 1, api.MaxSeq, api.MaxSeq + 1, 1 << 31, 1<<31 + 1, 1<<32 - 1} {
			for _, body := range [][]byte{nil, []byte("body"), make([]byte, api.MaxBody)} {
				b := told(byte(kind), seq, body)
				if kind >= 1 && kind <= api.MaxType && seq <= api.MaxSeq {
					wantGot(t, b, api.Frame{Type: kind, Seq: int64(seq), Body: body}, len(b))
					continue
				}
				wantRefused(t, b, api.ErrForm)
			}
		}
	}
}

func TestGetEndsAtAnyBytes(t *testing.T) {
	r := rand.New(rand.NewPCG(3, 2))
	for range 20000 {
		b := randomBytes(r, r.IntN(40))
		if len(b) > 1 && r.IntN(4) > 0 {
			binary.BigEndian.PutUint16(b, uint16(r.IntN(30)))
		}
		f, n, e := frame.Get(b)
		if e == api.OK && !bytes.Equal(frame.Put(f), b[:n]) {
			t.Errorf("Get of %x: %v of %d bytes", b, tell(f), n)
		}
		frame.Scan(b, int64(r.IntN(3)-1))
	}
}

// P3.1, C3

// rising is n right frames whose numbers go on from first.
func rising(r *rand.Rand, first int64, n int) []api.Frame {
	var frames []api.Frame
	for i := range n {
		frames = append(frames, api.Frame{Type: 1 + r.IntN(15), Seq: first + int64(i), Body: randomBytes(r, r.IntN(20)*r.IntN(2))})
	}
	return frames
}

func TestScan(t *testing.T) {
	r := rand.New(rand.NewPCG(3, 3))
	for _, first := range []int64{0, 1, 7, 255, 65530, api.MaxSeq - 9} {
		for n := range 11 {
			frames := rising(r, first, n)
			wantScan(t, row(frames), first, frames)
		}
	}
}

func TestScanOfNothing(t *testing.T) {
	for _, first := range []int64{0, 1, api.MaxSeq, -1} {
		wantScan(t, nil, first, nil)
		wantScan(t, []byte{}, first, nil)
		wantScan(t, []byte{0}, first, nil)
		wantScan(t, make([]byte, 11), first, nil)
	}
}

func TestScanFromAnotherNumber(t *testing.T) {
	b := row(rising(rand.New(rand.NewPCG(3, 4)), 5, 4))
	for _, first := range []int64{0, 4, 6, 7, 8, 9, -5, 5 + 1<<32, 5 - 1<<32, api.MaxSeq} {
		wantScan(t, b, first, nil)
	}
}

// A first that no frame may have as its number: bytes that say so are none, and a sum beyond the greatest number is none either.
func TestScanFromNoNumber(t *testing.T) {
	for _, first := range []int64{-1, -2, api.MaxSeq + 1, 1 << 31, 1<<32 - 1, 1 << 32, math.MaxInt64, math.MinInt64} {
		b := slices.Concat(told(1, uint32(first), nil), told(1, uint32(first+1), nil))
		wantScan(t, b, first, nil)
		wantScan(t, row(rising(rand.New(rand.NewPCG(3, 5)), 0, 3)), first, nil)
	}
}

// Behind the frame of the greatest number there is none.
func TestScanAtTheGreatestNumber(t *testing.T) {
	last := []api.Frame{{Type: 1, Seq: api.MaxSeq - 1}, {Type: 2, Seq: api.MaxSeq, Body: []byte("last")}}
	for _, next := range []uint32{0, api.MaxSeq, api.MaxSeq + 1} {
		b := append(row(last), told(1, next, nil)...)
		wantScan(t, b, api.MaxSeq-1, last)
		wantScan(t, b[11:], api.MaxSeq, last[1:])
	}
}

// Numbers that skip, that are told twice, or that go back end it.
func TestScanOfOtherNumbers(t *testing.T) {
	r := rand.New(rand.NewPCG(3, 6))
	for place := range 6 {
		for _, off := range []int64{-5, -2, -1, 1, 2, 100} {
			frames := rising(r, 10, 6)
			for i := place; i < 6; i++ {
				frames[i].Seq += off
			}
			wantScan(t, row(frames), 10, frames[:place])
			if place > 0 {
				frames = rising(r, 10, 6)
				frames[place].Seq += off
				wantScan(t, row(frames), 10, frames[:place])
			}
		}
	}
}

// What is no frame ends it, also where more frames stand behind.
func TestScanEndsAtWhatIsNone(t *testing.T) {
	r := rand.New(rand.NewPCG(3, 7))
	for _, none := range [][]byte{{0}, {255, 255}, told(0, 3, nil), told(16, 3, nil), told(1, 1<<31, nil), make([]byte, 11), summed(make([]byte, 8)), sized(api.MaxBody+1, 2000)} {
		frames := rising(r, 0, 6)
		wantScan(t, slices.Concat(row(frames[:3]), none, row(frames[3:])), 0, frames[:3])
		wantScan(t, slices.Concat(none, row(frames)), 0, nil)
		wantScan(t, slices.Concat(row(frames), none), 0, frames)
	}
}

func TestScanOfGreatFrames(t *testing.T) {
	var frames []api.Frame
	for i := range 50 {
		frames = append(frames, api.Frame{Type: 15, Seq: int64(i), Body: make([]byte, api.MaxBody)})
	}
	wantScan(t, row(frames), 0, frames)
}

// Scan by its words: Get of what is left, as long as that is OK and its number the next.
func TestScanIsGetInTurn(t *testing.T) {
	r := rand.New(rand.NewPCG(3, 8))
	for range 3000 {
		frames := rising(r, int64(r.IntN(3)), r.IntN(6))
		b := append(row(frames), randomBytes(r, r.IntN(3))...)
		if len(b) > 0 && r.IntN(2) == 0 {
			b[r.IntN(len(b))] = byte(r.IntN(256))
		}
		first := int64(r.IntN(3))
		var want []api.Frame
		for at := 0; ; {
			f, n, e := frame.Get(b[at:])
			if e != api.OK || f.Seq != first+int64(len(want)) {
				break
			}
			want, at = append(want, f), at+n
		}
		wantScan(t, b, first, want)
	}
}
