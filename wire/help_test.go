package wire_test

import (
	"bytes"
	"encoding/binary"
	"fmt"
	"math"
	"math/bits"
	"math/rand/v2"
	"slices"
	"strconv"
	"testing"

	"governor/api"
	"governor/wire"
)

// reads is what can be asked of a reader, be it the program's or that of the words.
type reads interface {
	Num() int64
	Int(least int64, most int64) int64
	Text(most int) []byte
	End() api.Errno
}

// words is a reader by the chapter's words alone.
type words struct {
	bytes []byte
	wrong api.Errno
}

// numberOf is the number that b begins with, and how many bytes it has.
func numberOf(b []byte) (int64, int, api.Errno) {
	ahead := 0
	for ahead < len(b) && b[ahead] >= 128 {
		ahead++
	}
	if ahead == len(b) && len(b) < 10 {
		return 0, 0, api.ErrEnd
	}
	if ahead > 9 {
		return 0, 0, api.ErrForm
	}
	var count uint64
	for _, c := range slices.Backward(b[:ahead+1]) {
		beyond, low := bits.Mul64(count, 128)
		if beyond > 0 {
			return 0, 0, api.ErrForm
		}
		count = low + uint64(c%128)
	}
	if len(binary.AppendUvarint(nil, count)) < ahead+1 {
		return 0, 0, api.ErrForm
	}
	if count%2 == 0 {
		return int64(count / 2), ahead + 1, api.OK
	}
	return -int64(count/2) - 1, ahead + 1, api.OK
}

func (w *words) Num() int64 { return w.Int(math.MinInt64, math.MaxInt64) }

func (w *words) Int(least int64, most int64) int64 {
	if w.wrong != api.OK {
		return 0
	}
	n, size, e := numberOf(w.bytes)
	if e == api.OK && (n < least || n > most) {
		e = api.ErrForm
	}
	if e != api.OK {
		w.wrong = e
		return 0
	}
	w.bytes = w.bytes[size:]
	return n
}

func (w *words) Text(most int) []byte {
	size := w.Int(0, int64(most))
	if w.wrong == api.OK && size > int64(len(w.bytes)) {
		w.wrong = api.ErrEnd
	}
	if w.wrong != api.OK {
		return nil
	}
	text := w.bytes[:size]
	w.bytes = w.bytes[size:]
	return text
}

func (w *words) End() api.Errno {
	if w.wrong != api.OK {
		return w.wrong
	}
	if len(w.bytes) > 0 {
		return api.ErrForm
	}
	return api.OK
}

// answer is what a call told, whichever it was.
type answer struct {
	n    int64
	text string
	e    api.Errno
}

// call is one of a reader. Its own, where it is right, writes what it told.
type call struct {
	name string
	do   func(r reads) answer
	own  func(w *wire.Writer, a answer)
}

func ownNum(w *wire.Writer, a answer) { w.Num(a.n) }

func ownText(w *wire.Writer, a answer) { w.Text([]byte(a.text)) }

func ownNothing(*wire.Writer, answer) {}

func num() call {
	return call{"Num", func(r reads) answer { return answer{n: r.Num()} }, ownNum}
}

func within(least, most int64) call {
	name := "Int(" + strconv.FormatInt(least, 10) + ", " + strconv.FormatInt(most, 10) + ")"
	return call{name, func(r reads) answer { return answer{n: r.Int(least, most)} }, ownNum}
}

func text(most int) call {
	name := "Text(" + strconv.Itoa(most) + ")"
	return call{name, func(r reads) answer { return answer{text: string(r.Text(most))} }, ownText}
}

func end() call {
	return call{"End", func(r reads) answer { return answer{e: r.End()} }, ownNothing}
}

// unlike does calls in turn, and End behind each, of the program's reader and of the words', and tells the first that is answered otherwise; nothing, if all are answered alike.
func unlike(b []byte, calls ...call) string {
	got, want := wire.NewReader(b), &words{bytes: b}
	for i, c := range calls {
		g, w := c.do(got), c.do(want)
		if ge, we := got.End(), want.End(); g != w || ge != we {
			return fmt.Sprintf("%s, call %d on %.40x: %v, then End %d, not %v, then End %d", c.name, i, b, g, ge, w, we)
		}
	}
	return ""
}

func wantHeld(t *testing.T, b []byte, calls ...call) {
	t.Helper()
	if wrong := unlike(b, calls...); wrong != "" {
		t.Error(wrong)
	}
}

// wantEnd asks for what is wrong behind one call on bytes.
func wantEnd(t *testing.T, b []byte, c call, want api.Errno) {
	t.Helper()
	r := wire.NewReader(b)
	got := c.do(r)
	if e := r.End(); e != want {
		t.Errorf("End behind %s of %.40x: error %d, not %d", c.name, b, e, want)
	}
	if want != api.OK && got != (answer{}) {
		t.Errorf("%s of %.40x: %v beside error %d", c.name, b, got, want)
	}
}

// wantTold asks for one call's answer on bytes that it reads to their end.
func wantTold(t *testing.T, b []byte, c call, want answer) {
	t.Helper()
	wantEnd(t, b, c, api.OK)
	if got := c.do(wire.NewReader(b)); got != want {
		t.Errorf("%s of %.40x: %v, not %v", c.name, b, got, want)
	}
}

func written(fill func(w *wire.Writer)) []byte {
	w := &wire.Writer{}
	fill(w)
	return w.Bytes()
}

func numBytes(n int64) []byte { return written(func(w *wire.Writer) { w.Num(n) }) }

func textBytes(b []byte) []byte { return written(func(w *wire.Writer) { w.Text(b) }) }

// longer is a number's bytes in so many more than need be.
func longer(b []byte, by int) []byte {
	b = bytes.Clone(b)
	for range by {
		b[len(b)-1] |= 128
		b = append(b, 0)
	}
	return b
}

// edges is the numbers at which one more byte begins, the bounds, those near 0, and those beside all of these.
func edges() []int64 {
	list := []int64{0, math.MaxInt64, math.MinInt64}
	for i := range 63 {
		list = append(list, 1<<i, -1<<i)
	}
	for _, n := range slices.Clone(list) {
		list = append(list, n-1, n+1)
	}
	return list
}

func randomBytes(r *rand.Rand, n int) []byte {
	b := make([]byte, n)
	for i := range b {
		b[i] = byte(r.IntN(256))
	}
	return b
}

// anyNum is of each size as often as of another one, and at an edge now and then.
func anyNum(r *rand.Rand) int64 {
	if r.IntN(4) == 0 {
		l := edges()
		return l[r.IntN(len(l))]
	}
	return int64(r.Uint64()) >> r.IntN(64)
}

// anyText has a size that is small more often than not, or at an edge of its own number.
func anyText(r *rand.Rand) []byte {
	sizes := []int{0, 1, 2, 63, 64, 65, 127, 128, 8191, 8192, r.IntN(10), r.IntN(10), r.IntN(10), r.IntN(200)}
	return randomBytes(r, sizes[r.IntN(len(sizes))])
}
