package wire_test

import (
	"math"
	"math/rand/v2"
	"runtime/debug"
	"slices"
	"sync"
	"testing"

	"governor/wire"
)

// eachCall is calls of each kind, with bounds that some of few bytes meet and others do not.
func eachCall() []call {
	return []call{
		num(), end(), within(0, 0), within(-64, 63), within(-65, 64), within(1, 0), within(math.MinInt64, math.MaxInt64),
		text(0), text(1), text(2), text(math.MaxInt), text(-1),
	}
}

// sequences is each row of n calls out of l.
func sequences(l []call, n int) [][]call {
	rows := [][]call{nil}
	for range n {
		var more [][]call
		for _, row := range rows {
			for _, c := range l {
				more = append(more, append(slices.Clone(row), c))
			}
		}
		rows = more
	}
	return rows
}

// eachRow asks each row of n bytes out of l, those of one first byte beside those of another one. What is wrong is told once for each first byte, and ends its rows.
func eachRow(t *testing.T, l []byte, n int, wrong func(b []byte) string) {
	t.Helper()
	if n == 0 {
		if s := wrong(nil); s != "" {
			t.Error(s)
		}
		return
	}
	// Readers are small and many: collected as often as is usual they take twice the time.
	defer debug.SetGCPercent(debug.SetGCPercent(2000))
	var group sync.WaitGroup
	for _, first := range l {
		group.Go(func() {
			b := slices.Repeat([]byte{first}, n)
			places := make([]int, n)
			for going := true; going; going = nextPlaces(places, len(l)) {
				for i := 1; i < n; i++ {
					b[i] = l[places[i]]
				}
				if s := wrong(b); s != "" {
					t.Error(s)
					return
				}
			}
		})
	}
	group.Wait()
}

// nextPlaces counts on, but for the first place, and says whether it could.
func nextPlaces(places []int, most int) bool {
	for i := len(places) - 1; i > 0; i-- {
		places[i]++
		if places[i] < most {
			return true
		}
		places[i] = 0
	}
	return false
}

func allBytes() []byte {
	l := make([]byte, 256)
	for i := range l {
		l[i] = byte(i)
	}
	return l
}

// unlikeAny is unlike of each row of calls.
func unlikeAny(rows [][]call) func(b []byte) string {
	return func(b []byte) string {
		for _, calls := range rows {
			if s := unlike(b, calls...); s != "" {
				return s
			}
		}
		return ""
	}
}

// P7.1 by its words: each row of three bytes or fewer, by each call, and what is told behind it.
func TestEachRowOfThreeBytes(t *testing.T) {
	for n := range 4 {
		rows := [][]call{{num(), num(), num()}, {within(-65, 64), num()}, {text(2), num()}, {end(), text(1)}}
		if n < 3 {
			for _, c := range eachCall() {
				rows = append(rows, []call{c, num()})
			}
		}
		eachRow(t, allBytes(), n, unlikeAny(rows))
	}
}

// Each row of two bytes or fewer, by each row of three calls.
func TestEachRowOfThreeCalls(t *testing.T) {
	rows := sequences([]call{num(), within(-64, 63), within(1, 0), text(1), text(0), end()}, 3)
	for n := range 3 {
		eachRow(t, allBytes(), n, unlikeAny(rows))
	}
}

// Rows of three and of four bytes that say something, by each row of four calls.
func TestEachRowOfFourCalls(t *testing.T) {
	rows := sequences([]call{num(), within(-1, 64), text(1), text(2)}, 4)
	for _, n := range []int{3, 4} {
		eachRow(t, []byte{0, 1, 2, 4, 6, 127, 128, 130, 255}, n, unlikeAny(rows))
	}
}

// Rows of ten bytes to thirteen at whose end a number may just be one, or not any more.
func TestRowsOfALongNumber(t *testing.T) {
	rows := [][]call{{num(), num(), num()}, {within(-1<<62, 1<<62), text(3)}, {text(math.MaxInt), num()}}
	for n := 7; n < 11; n++ {
		for _, c := range []byte{128, 129, 255} {
			ahead := slices.Repeat([]byte{c}, n)
			eachRow(t, []byte{0, 1, 2, 3, 63, 64, 126, 127, 128, 129, 130, 254, 255}, 3, func(b []byte) string {
				return unlikeAny(rows)(slices.Concat(ahead, b))
			})
		}
	}
}

// anyCall is one that reads, with bounds that may or may not hold.
func anyCall(r *rand.Rand) call {
	switch r.IntN(5) {
	case 0:
		return within(anyNum(r), anyNum(r))
	case 1:
		return within(math.MinInt64, anyNum(r))
	case 2:
		return text([]int{0, 1, 9, 200, 9000, math.MaxInt, -1}[r.IntN(7)])
	case 3:
		return text(math.MaxInt)
	}
	return num()
}

// damaged is bytes of which one was turned, taken, or laid between, or that were cut; or not.
func damaged(r *rand.Rand, b []byte) []byte {
	b = slices.Clone(b)
	if len(b) == 0 {
		return b
	}
	place := r.IntN(len(b))
	switch r.IntN(6) {
	case 0:
		b[place] = byte(r.IntN(256))
	case 1:
		b[place] ^= 128
	case 2:
		return slices.Delete(b, place, place+1)
	case 3:
		return slices.Insert(b, place, []byte{0, 1, 127, 128, 255}[r.IntN(5)])
	case 4:
		return b[:place]
	}
	return b
}

// Scripts of any calls, over what was written, whole and damaged, and over any bytes.
func TestAnyScriptByTheWords(t *testing.T) {
	r := rand.New(rand.NewPCG(7, 1))
	for range 40000 {
		var calls []call
		b := written(func(w *wire.Writer) {
			for range r.IntN(7) {
				if r.IntN(2) == 0 {
					n := anyNum(r)
					w.Num(n)
					calls = append(calls, []call{num(), within(n, n), within(math.MinInt64, n), anyCall(r)}[r.IntN(4)])
					continue
				}
				s := anyText(r)
				w.Text(s)
				calls = append(calls, []call{text(len(s)), text(len(s) + 1), text(math.MaxInt), anyCall(r)}[r.IntN(4)])
			}
		})
		for range r.IntN(3) {
			b = damaged(r, b)
		}
		if r.IntN(10) == 0 {
			b = randomBytes(r, r.IntN(30))
		}
		calls = append(calls, end(), anyCall(r), end())
		wantHeld(t, b, calls...)
	}
}
