package event

import (
	"governor/api"
	"governor/wire"
)

// coder is what fields are handed on to, by pointers: so which fields there are, and in which order, is told once for what writes them, what reads them, and what takes them away.
type coder interface {
	ints(all ...*int)
	longs(all ...*int64)
	// count is handed how many rows there are, and how many there may be; it tells how many there are from then on.
	count(n int, most int) int
	text(b *[]byte, most int)
}

// writer writes what the fields hold.
type writer struct{ to wire.Writer }

func (w *writer) ints(all ...*int) {
	for _, n := range all {
		w.to.Num(int64(*n))
	}
}

func (w *writer) longs(all ...*int64) {
	for _, n := range all {
		w.to.Num(*n)
	}
}

func (w *writer) count(n int, _ int) int {
	w.to.Num(int64(n))
	return n
}

func (w *writer) text(b *[]byte, _ int) { w.to.Text(*b) }

// reader reads what the fields are to hold.
type reader struct{ from *wire.Reader }

func (r reader) ints(all ...*int) {
	for _, n := range all {
		*n = int(r.from.Num())
	}
}

func (r reader) longs(all ...*int64) {
	for _, n := range all {
		*n = r.from.Num()
	}
}

func (r reader) count(_ int, most int) int { return int(r.from.Int(0, int64(most))) }

func (r reader) text(b *[]byte, most int) { *b = r.from.Text(most) }

// clearer makes the fields zero, and lists empty, whose rows it leaves alone, as they are the caller's.
type clearer struct{}

func (clearer) ints(all ...*int) {
	for _, n := range all {
		*n = 0
	}
}

func (clearer) longs(all ...*int64) {
	for _, n := range all {
		*n = 0
	}
}

func (clearer) count(int, int) int { return 0 }

func (clearer) text(b *[]byte, _ int) { *b = nil }

// fields hands on what an event of its kind has, in the order of its bytes.
func fields(c coder, e *api.Event) {
	switch e.Kind {
	case api.InSample:
		c.longs(&e.Util, &e.Demand)
	case api.InTick:
		c.longs(&e.T)
	case api.InPolicy:
		c.ints(&e.Id)
		policyFields(c, &e.Pol)
	case api.InConf:
		confFields(c, &e.Conf)
	case api.OutDecision:
		c.longs(&e.T)
		c.ints(&e.N)
	case api.OutPromote, api.OutRollback:
		c.ints(&e.Id)
	case api.OutSnapshot:
		c.text(&e.Body, api.MaxSnap)
	}
}

func policyFields(c coder, p *api.Policy) {
	c.ints(&p.Kind)
	c.longs(&p.Target)
	rows(c, &p.Bands, api.MaxBands, func(b *api.Band) {
		c.longs(&b.Above)
		c.ints(&b.Delta)
	})
	c.longs(&p.Kp, &p.Ki, &p.Kd, &p.Period)
	rows(c, &p.Slots, api.MaxSlots, func(s *api.Slot) {
		c.longs(&s.From)
		c.ints(&s.N)
	})
}

func confFields(c coder, f *api.Conf) {
	c.ints(&f.Min, &f.Max, &f.Rate)
	c.longs(&f.Stable, &f.Cap)
	c.ints(&f.Delay)
	c.longs(&f.Slack)
	c.ints(&f.Window)
	c.longs(&f.Margin)
	c.ints(&f.Ceil, &f.Probe, &f.Breach)
}

// rows hands on how many rows there are, and each of them. A list of another length is a new one: what was handed in is never written to.
func rows[T any](c coder, l *[]T, most int, row func(*T)) {
	n := c.count(len(*l), most)
	if n != len(*l) {
		*l = make([]T, n)
	}
	for i := range n {
		row(&(*l)[i])
	}
}
