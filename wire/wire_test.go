package wire_test

import (
	"bytes"
	"encoding/binary"
	"math"
	"slices"
	"testing"

	"governor/api"
	"governor/wire"
)

// known is numbers, and their bytes by the chapter's words.
func known() map[int64]string {
	return map[int64]string{
		0: "\x00", -1: "\x01", 1: "\x02", -2: "\x03", 2: "\x04", 63: "\x7e", -64: "\x7f",
		64: "\x80\x01", -65: "\x81\x01", 65: "\x82\x01", 300: "\xd8\x04",
		1<<13 - 1: "\xfe\x7f", -1 << 13: "\xff\x7f", 1 << 13: "\x80\x80\x01", -1<<13 - 1: "\x81\x80\x01",
		1<<62 - 1: "\xfe\xff\xff\xff\xff\xff\xff\xff\x7f", -1 << 62: "\xff\xff\xff\xff\xff\xff\xff\xff\x7f",
		1 << 62: "\x80\x80\x80\x80\x80\x80\x80\x80\x80\x01", -1<<62 - 1: "\x81\x80\x80\x80\x80\x80\x80\x80\x80\x01",
		1<<63 - 1: "\xfe\xff\xff\xff\xff\xff\xff\xff\xff\x01", -1 << 63: "\xff\xff\xff\xff\xff\xff\xff\xff\xff\x01",
	}
}

// P7.1, G1

func TestNumIsWritten(t *testing.T) {
	for n, want := range known() {
		if b := numBytes(n); string(b) != want {
			t.Errorf("the bytes of %d: %x, not %x", n, b, want)
		}
	}
	for _, n := range edges() {
		if b, want := numBytes(n), binary.AppendVarint(nil, n); !bytes.Equal(b, want) {
			t.Errorf("the bytes of %d: %x, not %x", n, b, want)
		}
	}
}

func TestTextIsWritten(t *testing.T) {
	for want, s := range map[string]string{"\x00": "", "\x02a": "a", "\x04ab": "ab", "\x06\x00\x80\xff": "\x00\x80\xff"} {
		if b := textBytes([]byte(s)); string(b) != want {
			t.Errorf("the bytes of %q: %x, not %x", s, b, want)
		}
	}
	if b := textBytes(nil); string(b) != "\x00" {
		t.Errorf("the bytes of no text: %x", b)
	}
	for _, n := range []int{1, 63, 64, 65, 127, 128, 8191, 8192, 1 << 20} {
		s := bytes.Repeat([]byte{7}, n)
		if b, want := textBytes(s), append(binary.AppendVarint(nil, int64(n)), s...); !bytes.Equal(b, want) {
			t.Errorf("the bytes of a text of %d begin with %.10x, not %.10x", n, b, want)
		}
	}
}

func TestWriterOfNothing(t *testing.T) {
	var w wire.Writer
	for range 3 {
		if b := w.Bytes(); len(b) != 0 {
			t.Errorf("nothing written: %x", b)
		}
	}
	if b := new(wire.Writer).Bytes(); len(b) != 0 {
		t.Errorf("nothing written: %x", b)
	}
}

// What is written stands behind what was, and Bytes takes none of it away.
func TestAllThatWasWritten(t *testing.T) {
	w := &wire.Writer{}
	want := ""
	for _, part := range []struct {
		write func()
		bytes string
	}{
		{func() { w.Num(-1) }, "\x01"}, {func() { w.Text([]byte("ab")) }, "\x04ab"}, {func() { w.Text(nil) }, "\x00"},
		{func() { w.Num(64) }, "\x80\x01"}, {func() {}, ""}, {func() { w.Num(0) }, "\x00"}, {func() { w.Text([]byte{128}) }, "\x02\x80"},
	} {
		part.write()
		want += part.bytes
		for range 2 {
			if b := w.Bytes(); string(b) != want {
				t.Errorf("written: %x, not %x", b, want)
			}
		}
	}
}

// Nothing that a writer wrote is seen of another one.
func TestTwoWriters(t *testing.T) {
	a, b := &wire.Writer{}, &wire.Writer{}
	a.Num(1)
	b.Text([]byte("b"))
	a.Num(2)
	if string(a.Bytes()) != "\x02\x04" || string(b.Bytes()) != "\x02b" {
		t.Errorf("%x, and %x", a.Bytes(), b.Bytes())
	}
}

// P7.1, G2: Num

func TestNumIsRead(t *testing.T) {
	for n, b := range known() {
		wantTold(t, []byte(b), num(), answer{n: n})
	}
	for _, n := range edges() {
		wantTold(t, binary.AppendVarint(nil, n), num(), answer{n: n})
	}
}

// Each place at which a number's bytes may end, also where nothing could come of them any more but one byte.
func TestNumThatIsCut(t *testing.T) {
	for _, n := range edges() {
		b := binary.AppendVarint(nil, n)
		for i := range b {
			wantEnd(t, b[:i], num(), api.ErrEnd)
		}
	}
	for n := range 10 {
		wantEnd(t, bytes.Repeat([]byte{128}, n), num(), api.ErrEnd)
		wantEnd(t, bytes.Repeat([]byte{255}, n), num(), api.ErrEnd)
	}
}

// Ten bytes, or more, of which none is the last: no more bytes would make a number of them.
func TestNumWithoutAnEnd(t *testing.T) {
	for _, n := range []int{10, 11, 12, 20, 1000} {
		for _, c := range []byte{128, 129, 255} {
			b := bytes.Repeat([]byte{c}, n)
			wantEnd(t, b, num(), api.ErrForm)
			wantEnd(t, append(b, 0), num(), api.ErrForm)
			wantEnd(t, append(b, 1), num(), api.ErrForm)
		}
	}
}

// The last one of ten bytes: 0 is one more than need be, 1 the greatest, 2 and above too much, and 128 none.
func TestTheTenthByte(t *testing.T) {
	for _, ahead := range []byte{128, 129, 254, 255} {
		for c := range 256 {
			b := append(bytes.Repeat([]byte{ahead}, 9), byte(c))
			if c == 1 {
				wantEnd(t, b, num(), api.OK)
				wantHeld(t, append(b, 0), num(), num())
				continue
			}
			wantEnd(t, b, num(), api.ErrForm)
			wantEnd(t, append(b, 0), num(), api.ErrForm)
			wantEnd(t, append(b, 1), num(), api.ErrForm)
		}
	}
}

func TestNumInMoreBytesThanNeedBe(t *testing.T) {
	for _, n := range edges() {
		for by := 1; by < 12; by++ {
			b := longer(binary.AppendVarint(nil, n), by)
			wantEnd(t, b, num(), api.ErrForm)
			wantEnd(t, append(b, 1), num(), api.ErrForm)
			wantEnd(t, b, within(math.MinInt64, math.MaxInt64), api.ErrForm)
		}
	}
}

// Nine bytes make a number whatever they are, with a last one that is not 0.
func TestNumOfNineBytes(t *testing.T) {
	for _, ahead := range []byte{128, 129, 255} {
		for last := range 128 {
			b := append(bytes.Repeat([]byte{ahead}, 8), byte(last))
			want := api.OK
			if last == 0 {
				want = api.ErrForm
			}
			wantEnd(t, b, num(), want)
			wantHeld(t, b, num())
		}
	}
}

// P7.1, G2: Int

func TestIntWithinBounds(t *testing.T) {
	for _, n := range edges() {
		b := binary.AppendVarint(nil, n)
		for _, c := range []call{within(n, n), within(math.MinInt64, n), within(n, math.MaxInt64), within(math.MinInt64, math.MaxInt64)} {
			wantTold(t, b, c, answer{n: n})
		}
		if n > math.MinInt64 {
			wantTold(t, b, within(n-1, n), answer{n: n})
			wantEnd(t, b, within(n-1, n-1), api.ErrForm)
			wantEnd(t, b, within(math.MinInt64, n-1), api.ErrForm)
		}
		if n < math.MaxInt64 {
			wantTold(t, b, within(n, n+1), answer{n: n})
			wantEnd(t, b, within(n+1, n+1), api.ErrForm)
			wantEnd(t, b, within(n+1, math.MaxInt64), api.ErrForm)
		}
	}
}

// Both bounds are within, and one beyond each is not.
func TestIntAtItsBounds(t *testing.T) {
	for n := int64(-12); n <= 12; n++ {
		want := api.ErrForm
		if n >= -7 && n <= 5 {
			want = api.OK
			wantTold(t, numBytes(n), within(-7, 5), answer{n: n})
		}
		wantEnd(t, numBytes(n), within(-7, 5), want)
	}
}

// With the least number above the most one nothing is within.
func TestIntWithoutNumbers(t *testing.T) {
	for _, c := range []call{within(1, 0), within(0, -1), within(5, -5), within(math.MaxInt64, math.MinInt64), within(math.MinInt64+1, math.MinInt64)} {
		for _, n := range edges() {
			wantEnd(t, binary.AppendVarint(nil, n), c, api.ErrForm)
		}
	}
}

// What is wrong with the number goes ahead of its bounds.
func TestIntOfNoNumber(t *testing.T) {
	for _, c := range []call{within(0, 4), within(1, 0), within(math.MinInt64, math.MaxInt64)} {
		for i := range 10 {
			wantEnd(t, bytes.Repeat([]byte{255}, i), c, api.ErrEnd)
		}
		wantEnd(t, bytes.Repeat([]byte{255}, 10), c, api.ErrForm)
		wantEnd(t, longer([]byte{2}, 1), c, api.ErrForm)
	}
}

// P7.1, G2: Text

func TestTextIsRead(t *testing.T) {
	for _, n := range []int{0, 1, 2, 63, 64, 65, 127, 128, 8191, 8192, 1 << 17} {
		s := bytes.Repeat([]byte("\x00\xff"), n)[:n]
		b := append(binary.AppendVarint(nil, int64(n)), s...)
		for _, most := range []int{n, n + 1, 2*n + 9, math.MaxInt} {
			wantTold(t, b, text(most), answer{text: string(s)})
		}
		for _, most := range []int{n - 1, n / 2, 0, -1, -n, math.MinInt} {
			if most < n {
				wantEnd(t, b, text(most), api.ErrForm)
			}
		}
	}
}

func TestEmptyText(t *testing.T) {
	for _, most := range []int{0, 1, 100, math.MaxInt} {
		wantTold(t, []byte{0}, text(most), answer{})
	}
	for _, most := range []int{-1, -2, math.MinInt} {
		wantEnd(t, []byte{0}, text(most), api.ErrForm)
	}
}

func TestTextOfASizeBelowNothing(t *testing.T) {
	for _, n := range []int64{-1, -2, -64, -65, -1 << 31, -1 << 32, math.MinInt64} {
		b := append(binary.AppendVarint(nil, n), "some bytes"...)
		for _, most := range []int{0, 1, 100, math.MaxInt, -1, int(n), math.MinInt} {
			wantEnd(t, b, text(most), api.ErrForm)
		}
	}
}

func TestTextThatIsCut(t *testing.T) {
	for _, n := range []int{1, 2, 63, 64, 200} {
		s := bytes.Repeat([]byte{130}, n)
		b := append(binary.AppendVarint(nil, int64(n)), s...)
		for i := range b {
			wantEnd(t, b[:i], text(n), api.ErrEnd)
			wantEnd(t, b[:i], text(math.MaxInt), api.ErrEnd)
		}
	}
}

// A size that no bytes could have.
func TestTextOfAGreatSize(t *testing.T) {
	for _, n := range []int64{1 << 31, 1<<32 + 1, 1 << 62, math.MaxInt64 - 1, math.MaxInt64} {
		b := append(binary.AppendVarint(nil, n), "some bytes"...)
		wantEnd(t, b, text(math.MaxInt), api.ErrEnd)
		wantEnd(t, b, text(int(n)), api.ErrEnd)
		wantEnd(t, b, text(int(n)-1), api.ErrForm)
		wantEnd(t, b, text(10), api.ErrForm)
	}
}

// A wrong size goes by the number's errors, a size that may not be goes ahead of bytes that are not there.
func TestOrderOfATextsErrors(t *testing.T) {
	for _, most := range []int{-1, 0, 2, math.MaxInt} {
		wantEnd(t, nil, text(most), api.ErrEnd)
		wantEnd(t, bytes.Repeat([]byte{255}, 9), text(most), api.ErrEnd)
		wantEnd(t, bytes.Repeat([]byte{255}, 10), text(most), api.ErrForm)
		wantEnd(t, []byte{130, 0, 1, 1, 1, 1}, text(most), api.ErrForm)
		wantEnd(t, []byte{130, 0}, text(most), api.ErrForm)
	}
	wantEnd(t, []byte{6, 1}, text(2), api.ErrForm)
	wantEnd(t, []byte{6, 1}, text(3), api.ErrEnd)
	wantEnd(t, []byte{6, 1, 1, 1}, text(2), api.ErrForm)
	wantEnd(t, []byte{6}, text(3), api.ErrEnd)
}

// P7.1, G2: End, and what is behind something wrong

func TestEndOfAllAndOfSome(t *testing.T) {
	b := []byte("\x02\x04ab\x00\x81\x01")
	r := wire.NewReader(b)
	for i, c := range []call{num(), text(2), text(0), num()} {
		for range 2 {
			if e := r.End(); e != api.ErrForm {
				t.Errorf("End behind %d calls: error %d", i, e)
			}
		}
		c.do(r)
	}
	for range 2 {
		if e := r.End(); e != api.OK {
			t.Errorf("End at the end: error %d", e)
		}
	}
	for _, none := range [][]byte{nil, {}} {
		if e := wire.NewReader(none).End(); e != api.OK {
			t.Errorf("End of nothing: error %d", e)
		}
	}
}

// A call at the end is wrong: there is nothing more.
func TestBehindTheEnd(t *testing.T) {
	for _, c := range []call{num(), within(-9, 9), text(9)} {
		r := wire.NewReader([]byte{8})
		r.Num()
		if got, e := c.do(r), r.End(); got != (answer{}) || e != api.ErrEnd {
			t.Errorf("%s at the end: %v, error %d", c.name, got, e)
		}
	}
}

// wrong is a call, and what it finds wrong.
type wrong struct {
	first call
	want  api.Errno
}

// wrongs is bytes with a call that is wrong on them: behind it there would be numbers, and texts, to be read.
func wrongs() map[string]wrong {
	return map[string]wrong{
		"":                         {num(), api.ErrEnd},
		"\x80":                     {num(), api.ErrEnd},
		"\xff\xff":                 {within(-9, 9), api.ErrEnd},
		"\x80\x00\x00\x02a":        {num(), api.ErrForm},
		"\x02\x02a\x00":            {within(2, 3), api.ErrForm},
		"\x04\x02a\x00":            {within(9, 0), api.ErrForm},
		"\x08\x02a":                {text(9), api.ErrEnd},
		"\x06\x02a\x00":            {text(2), api.ErrForm},
		"\x01\x02a\x00":            {text(9), api.ErrForm},
		"\x80\x80\x80\x80\x80\x80": {text(9), api.ErrEnd},
		"\x82\x00\x02a":            {text(9), api.ErrForm},
		"\xff\xff\xff\xff\xff\xff\xff\xff\xff\x02\x02a": {num(), api.ErrForm},
	}
}

func TestBehindWhatIsWrong(t *testing.T) {
	calls := []call{num(), within(math.MinInt64, math.MaxInt64), within(1, 0), text(math.MaxInt), text(0), text(-1)}
	for b, w := range wrongs() {
		for _, next := range calls {
			r := wire.NewReader([]byte(b))
			told := []answer{w.first.do(r), next.do(r), num().do(r), next.do(r)}
			if e := r.End(); e != w.want {
				t.Errorf("%s, then %s of %x: error %d, not %d", w.first.name, next.name, b, e, w.want)
			}
			if slices.ContainsFunc(told, func(a answer) bool { return a != answer{} }) {
				t.Errorf("%s, then %s of %x: %v", w.first.name, next.name, b, told)
			}
		}
	}
}

// The same behind what was right: what was wrong first is told, and all ahead of it was read.
func TestBehindWhatIsWrongLater(t *testing.T) {
	for b, w := range wrongs() {
		r := wire.NewReader(slices.Concat([]byte("\x0a\x04ab"), []byte(b)))
		if n, s := r.Num(), r.Text(2); n != 5 || string(s) != "ab" {
			t.Errorf("ahead of %x: %d and %q", b, n, s)
		}
		told := []answer{w.first.do(r), num().do(r), text(9).do(r)}
		if e := r.End(); e != w.want || slices.ContainsFunc(told, func(a answer) bool { return a != answer{} }) {
			t.Errorf("%s of %x: %v, error %d, not %d", w.first.name, b, told, e, w.want)
		}
	}
}

// End is not one of what was wrong: bytes that are left may be read behind it.
func TestEndChangesNothing(t *testing.T) {
	r := wire.NewReader([]byte("\x02\x02a"))
	told := []answer{end().do(r), num().do(r), end().do(r), text(1).do(r), end().do(r)}
	want := []answer{{e: api.ErrForm}, {n: 1}, {e: api.ErrForm}, {text: "a"}, {}}
	if !slices.Equal(told, want) {
		t.Errorf("%v, not %v", told, want)
	}
}
