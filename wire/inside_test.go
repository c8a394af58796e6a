package wire

import (
	"testing"

	"governor/api"
)

// P7.1, G2: what is wrong reads nothing. From outside none sees it, as behind that nothing is told; so it is asked here.
func TestWhatIsWrongReadsNothing(t *testing.T) {
	calls := map[string]func(r *Reader){
		"a number that is cut":               func(r *Reader) { r.bytes = r.bytes[:3]; r.Num() },
		"a number that is none":              func(r *Reader) { r.bytes[3] = 0; r.Num() },
		"a number beyond its bounds":         func(r *Reader) { r.Int(-5, 5) },
		"a number that has no bounds":        func(r *Reader) { r.Int(5, -5) },
		"a text that is cut":                 func(r *Reader) { r.Text(1000) },
		"a text that is too long":            func(r *Reader) { r.Text(9) },
		"a text of a size below 0":           func(r *Reader) { r.bytes[2] |= 1; r.Text(1000) },
		"a number behind what was wrong":     func(r *Reader) { r.wrong = api.ErrEnd; r.Num() },
		"a text behind what was wrong":       func(r *Reader) { r.wrong = api.ErrEnd; r.Text(1000) },
		"a number's bounds behind the wrong": func(r *Reader) { r.wrong = api.ErrForm; r.Int(-1<<63, 1<<63-1) },
	}
	for name, do := range calls {
		r := NewReader([]byte("\x02\x04\xd8\x04ab"))
		if a, b := r.Num(), r.Num(); a != 1 || b != 2 {
			t.Errorf("ahead of %s: %d and %d", name, a, b)
		}
		do(r)
		if r.read != 2 || r.wrong == api.OK {
			t.Errorf("%s: %d bytes were read, error %d", name, r.read, r.wrong)
		}
	}
}

// Of numbers, and of a text, just their bytes are read, and End reads none.
func TestHowManyBytesAreRead(t *testing.T) {
	r := NewReader([]byte("\x02\xd8\x04\x04ab\x00\x06"))
	for i, do := range []func(){func() { r.End() }, func() { r.Num() }, func() { r.Int(0, 300) }, func() { r.Text(2) }, func() { r.Text(0) }, func() { r.End() }} {
		do()
		if want := []int{0, 1, 3, 6, 7, 7}[i]; r.read != want || r.wrong != api.OK {
			t.Errorf("call %d: %d bytes were read, not %d, error %d", i, r.read, want, r.wrong)
		}
	}
}
