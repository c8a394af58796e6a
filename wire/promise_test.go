package wire_test

import (
	"bytes"
	"fmt"
	"math"
	"math/rand/v2"
	"slices"
	"strings"
	"sync"
	"sync/atomic"
	"testing"

	"governor/api"
	"governor/wire"
)

// item is a number, or a text, that is written and read.
type item struct {
	isText bool
	n      int64
	text   []byte
}

func (x item) write(w *wire.Writer) {
	if x.isText {
		w.Text(x.text)
		return
	}
	w.Num(x.n)
}

// calls is what reads it: by no bounds, and by bounds that just hold.
func (x item) calls() []call {
	if x.isText {
		return []call{text(len(x.text)), text(len(x.text) + 1), text(math.MaxInt)}
	}
	return []call{num(), within(x.n, x.n), within(math.MinInt64, x.n), within(x.n, math.MaxInt64)}
}

func (x item) answer() answer {
	if x.isText {
		return answer{text: string(x.text)}
	}
	return answer{n: x.n}
}

func anyItems(r *rand.Rand, n int) []item {
	var l []item
	for range n {
		if r.IntN(2) == 0 {
			l = append(l, item{n: anyNum(r)})
			continue
		}
		l = append(l, item{isText: true, text: anyText(r)})
	}
	return l
}

func writtenItems(l []item) []byte {
	return written(func(w *wire.Writer) {
		for _, x := range l {
			x.write(w)
		}
	})
}

// wantBack asks for items in their order, with something left ahead of each, and nothing behind the last one.
func wantBack(t *testing.T, b []byte, l []item, choose func(calls []call) call) {
	t.Helper()
	r := wire.NewReader(b)
	for i, x := range l {
		if e := r.End(); e != api.ErrForm {
			t.Errorf("End ahead of item %d of %d: error %d", i, len(l), e)
		}
		c := choose(x.calls())
		if got := c.do(r); got != x.answer() {
			t.Errorf("item %d of %d by %s: %.40v, not %.40v", i, len(l), c.name, got, x.answer())
		}
	}
	if e := r.End(); e != api.OK {
		t.Errorf("End behind %d items: error %d", len(l), e)
	}
}

// P7.2

func TestThereAndBack(t *testing.T) {
	r := rand.New(rand.NewPCG(7, 10))
	for i := range 5000 {
		l := anyItems(r, i%9)
		b := writtenItems(l)
		wantBack(t, b, l, func(calls []call) call { return calls[r.IntN(len(calls))] })
	}
}

func TestEdgesThereAndBack(t *testing.T) {
	var l []item
	for _, n := range edges() {
		l = append(l, item{n: n}, item{isText: true, text: numBytes(n)})
		x := item{n: n}
		for _, c := range x.calls() {
			wantTold(t, numBytes(n), c, x.answer())
		}
	}
	wantBack(t, writtenItems(l), l, func(calls []call) call { return calls[0] })
	wantBack(t, writtenItems(l), l, func(calls []call) call { return calls[1] })
}

// Numbers near 0, each of them.
func TestSmallNumbersThereAndBack(t *testing.T) {
	var l []item
	for n := int64(-20000); n <= 20000; n++ {
		l = append(l, item{n: n})
	}
	wantBack(t, writtenItems(l), l, func(calls []call) call { return calls[0] })
}

// Texts of each size up to some, as they stand behind one another.
func TestTextsThereAndBack(t *testing.T) {
	s := randomBytes(rand.New(rand.NewPCG(7, 11)), 1000)
	var l []item
	for n := range s {
		l = append(l, item{isText: true, text: s[:n]})
	}
	wantBack(t, writtenItems(l), l, func(calls []call) call { return calls[0] })
}

// Texts that are what was written are told as they are.
func TestTextsInTexts(t *testing.T) {
	var l []item
	for range 20 {
		b := writtenItems(l)
		l = []item{{n: int64(len(b))}, {isText: true, text: b}, {n: -1}, {isText: true}}
		wantBack(t, writtenItems(l), l, func(calls []call) call { return calls[0] })
	}
}

// A great many, and a great text, take no time to speak of.
func TestManyThereAndBack(t *testing.T) {
	s := randomBytes(rand.New(rand.NewPCG(7, 12)), 1<<22)
	l := []item{{isText: true, text: s}}
	for i := range int64(300000) {
		l = append(l, item{n: i * i * i * 7919})
	}
	wantBack(t, writtenItems(l), l, func(calls []call) call { return calls[0] })
}

// P7.3

// oneForm reads bytes by calls, and then by the last one as long as there is more, and tells whether that comes to the end. If so, what was read is to be written as just these bytes: else it tells what is wrong.
func oneForm(b []byte, calls ...call) (ends bool, wrong string) {
	r, w := wire.NewReader(b), &wire.Writer{}
	for i := 0; i < len(calls) || i <= len(b) && r.End() != api.OK; i++ {
		c := calls[min(i, len(calls)-1)]
		c.own(w, c.do(r))
	}
	if r.End() != api.OK {
		return false, ""
	}
	if got := w.Bytes(); !bytes.Equal(got, b) {
		return true, fmt.Sprintf("read to its end: %.40x, which is written as %.40x", b, got)
	}
	return true, ""
}

func TestOneFormOfEachRowOfThreeBytes(t *testing.T) {
	for _, c := range []call{num(), text(math.MaxInt)} {
		for n := 1; n < 4; n++ {
			var some atomic.Bool
			eachRow(t, allBytes(), n, func(b []byte) string {
				ends, wrong := oneForm(b, c)
				if ends && !some.Load() {
					some.Store(true)
				}
				return wrong
			})
			if !some.Load() {
				t.Errorf("no row of %d bytes is read to its end by %s", n, c.name)
			}
		}
	}
}

// Of what was written, and then turned, as of any bytes: what is read to its end has no other form.
func TestOneFormOfAnyBytes(t *testing.T) {
	r := rand.New(rand.NewPCG(7, 13))
	ended := 0
	for range 40000 {
		var calls []call
		l := anyItems(r, 1+r.IntN(4))
		for _, x := range l {
			calls = append(calls, x.calls()[r.IntN(3)], end())
		}
		b := writtenItems(l)
		for range r.IntN(3) {
			b = damaged(r, b)
		}
		ends, wrong := oneForm(b, calls...)
		if wrong != "" {
			t.Error(wrong)
		}
		if ends {
			ended++
		}
	}
	if ended < 10000 {
		t.Errorf("only %d were read to their end", ended)
	}
}

// Two items that are not alike are not written alike, and no bytes of one begin those of another one.
func TestNoneBeginsAnother(t *testing.T) {
	var rows []string
	for _, n := range edges() {
		rows = append(rows, string(numBytes(n)))
	}
	slices.Sort(rows)
	rows = slices.Compact(rows)
	for i, row := range rows[1:] {
		if strings.HasPrefix(row, rows[i]) {
			t.Errorf("%x begins %x", rows[i], row)
		}
	}
}

// The rules: P1, each call ends at any arguments.
func TestAnyArgumentsEnd(t *testing.T) {
	sizes := []int{math.MinInt, math.MinInt + 1, -1, 0, 1, 10, 11, math.MaxInt - 1, math.MaxInt}
	for _, least := range edges() {
		for _, most := range sizes {
			for _, b := range [][]byte{nil, {0}, numBytes(least), numBytes(int64(most)), textBytes(numBytes(least)), bytes.Repeat([]byte{255}, 12)} {
				wantHeld(t, b, within(least, int64(most)), text(most), num(), end())
				wantHeld(t, b, text(most), within(int64(most), least), end())
			}
		}
	}
}

// around is b's bytes with bytes on both sides of them, the spare room as the whole has it.
func around(b []byte) (whole []byte, part []byte) {
	whole = slices.Concat([]byte("ahead"), b, bytes.Repeat([]byte("spare"), 40))
	return whole, whole[5 : 5+len(b)]
}

// spoil writes over a list and over its spare room.
func spoil(b []byte) {
	b = b[:cap(b)]
	for i := range b {
		b[i] ^= 255
	}
}

// The rules: P3, what is handed in stays as it was, its spare room too, and is not kept.

func TestTextIsNotKept(t *testing.T) {
	r := rand.New(rand.NewPCG(7, 14))
	for range 200 {
		s := anyText(r)
		want := append(textBytes(s), 2)
		whole, part := around(s)
		before := bytes.Clone(whole)
		w := &wire.Writer{}
		w.Text(part)
		w.Num(1)
		if !bytes.Equal(whole, before) {
			t.Errorf("Text of %d bytes changed what was handed in", len(s))
		}
		spoil(whole)
		if b := w.Bytes(); !bytes.Equal(b, want) {
			t.Errorf("Text of %d bytes keeps what was handed in", len(s))
		}
	}
}

func TestWhatIsReadIsNotKept(t *testing.T) {
	r := rand.New(rand.NewPCG(7, 15))
	for range 200 {
		l := anyItems(r, 5)
		whole, part := around(writtenItems(l))
		before := bytes.Clone(whole)
		first, second := wire.NewReader(part), wire.NewReader(part)
		for _, x := range l {
			if got := x.calls()[0].do(first); got != x.answer() {
				t.Errorf("%.40v, not %.40v", got, x.answer())
			}
		}
		if first.Num(); !bytes.Equal(whole, before) {
			t.Error("what was read was changed")
		}
		spoil(whole)
		for _, x := range l {
			if got := x.calls()[0].do(second); got != x.answer() {
				t.Errorf("what was handed in is kept: %.40v, not %.40v", got, x.answer())
			}
		}
		if e := second.End(); e != api.OK {
			t.Errorf("what was handed in is kept: error %d", e)
		}
	}
}

// What stands in the spare room behind is not read.
func TestSpareRoomIsNotRead(t *testing.T) {
	for _, b := range [][]byte{numBytes(-1 << 63), numBytes(300), textBytes([]byte("some text")), textBytes(make([]byte, 70))} {
		for i := range b {
			wantHeld(t, b[:i], num(), num())
			wantHeld(t, b[:i], text(100), num())
		}
	}
}

// The rules: P3, what comes out is new, its spare room too.

func TestBytesAreNew(t *testing.T) {
	w, want := &wire.Writer{}, []byte{}
	var told [][]byte
	for i := range 40 {
		w.Num(int64(i))
		want = append(want, byte(2*i))
		a, b := w.Bytes(), w.Bytes()
		spoil(a)
		told = append(told, b)
		if got := w.Bytes(); !bytes.Equal(got, want) || !bytes.Equal(b, want) {
			t.Errorf("behind %d numbers Bytes share what they answered: %x", i, got)
		}
	}
	for i, b := range told {
		if !bytes.Equal(b, want[:i+1]) {
			t.Errorf("what Bytes told was changed by what was written behind it: %x", b)
		}
		spoil(b)
	}
	if got := w.Bytes(); !bytes.Equal(got, want) {
		t.Errorf("Bytes share what they answered: %x", got)
	}
}

func TestTextsAreNew(t *testing.T) {
	s := [][]byte{[]byte("one"), nil, []byte("three"), bytes.Repeat([]byte("4"), 100), []byte("5")}
	b := written(func(w *wire.Writer) {
		for _, x := range s {
			w.Text(x)
		}
	})
	before := bytes.Clone(b)
	r := wire.NewReader(b)
	var told [][]byte
	for _, x := range s {
		got := r.Text(100)
		if !bytes.Equal(got, x) {
			t.Errorf("%q, not %q", got, x)
		}
		told = append(told, bytes.Clone(got))
		spoil(got)
	}
	if e := r.End(); e != api.OK || !slices.EqualFunc(told, s, bytes.Equal) || !bytes.Equal(b, before) {
		t.Errorf("texts share what they answered: %q, error %d", told, e)
	}
}

// Two texts of one reader, and of two readers of the same bytes, are each one's own.
func TestTextsShareNothing(t *testing.T) {
	b := slices.Concat(textBytes([]byte("first")), textBytes([]byte("second")))
	r, q := wire.NewReader(b), wire.NewReader(b)
	texts := [][]byte{r.Text(9), q.Text(9), r.Text(9), q.Text(9)}
	for i := range texts {
		spoil(texts[i])
		for j := i + 1; j < len(texts); j++ {
			if want := []string{"first", "first", "second", "second"}[j]; string(texts[j]) != want {
				t.Errorf("text %d shares with text %d: %q", i, j, texts[j])
			}
		}
	}
}

// The rules: P3, what is answered hangs on the calls on the same thing alone: many at a time, in any order.
func TestManyAtATime(t *testing.T) {
	r := rand.New(rand.NewPCG(7, 16))
	var rows [][]item
	for range 50 {
		rows = append(rows, anyItems(r, 6))
	}
	var group sync.WaitGroup
	for worker := range 8 {
		group.Go(func() {
			for i := range rows {
				l := rows[(i+worker*7)%len(rows)]
				wantBack(t, writtenItems(l), l, func(calls []call) call { return calls[worker%3] })
			}
		})
	}
	group.Wait()
}

// Two readers of the same bytes, one behind the other and in turn.
func TestTwoReaders(t *testing.T) {
	b := []byte{2, 4, 128}
	r, q := wire.NewReader(b), wire.NewReader(b)
	told := []int64{r.Num(), q.Num(), r.Num(), r.Num(), q.Num()}
	if !slices.Equal(told, []int64{1, 1, 2, 0, 2}) || r.End() != api.ErrEnd || q.End() != api.ErrForm {
		t.Errorf("%v, errors %d and %d", told, r.End(), q.End())
	}
}
