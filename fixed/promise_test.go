package fixed_test

import (
	"math/rand/v2"
	"sync"
	"testing"

	"governor/api"
	"governor/fixed"
)

// someNumbers is the edges, and many at random.
func someNumbers(seed uint64) []int64 {
	l := edges()
	r := rand.New(rand.NewPCG(8, seed))
	for range 200 {
		l = append(l, random(r))
	}
	return l
}

func isRight(n int64) bool { return -api.MaxFix <= n && n <= api.MaxFix }

// P8.2: all that is answered is right, whatever is asked.
func TestAllIsRight(t *testing.T) {
	l := someNumbers(1)
	for _, a := range l {
		for _, c := range ones() {
			if n := c.does(a); !isRight(n) {
				t.Error(c.name, a, "is not right:", n)
			}
		}
		for _, b := range l {
			for _, c := range twos() {
				if n := c.does(a, b); !isRight(n) {
					t.Error(c.name, a, b, "is not right:", n)
				}
			}
			for _, d := range bounds() {
				if n := fixed.Clamp(a, b, d); !isRight(n) {
					t.Error("Clamp", a, b, d, "is not right:", n)
				}
			}
		}
	}
}

// H1: of all calls each argument is taken as Sat of it.
func TestArgumentsAreTakenIntoTheBounds(t *testing.T) {
	l := someNumbers(2)
	for _, a := range l {
		for _, c := range ones() {
			want(t, c.name+" of Sat", c.does(fixed.Sat(a)), c.does(a), a)
		}
		for _, b := range l {
			for _, c := range twos() {
				want(t, c.name+" of Sat", c.does(fixed.Sat(a), b), c.does(a, b), a, b)
				want(t, c.name+" by Sat", c.does(a, fixed.Sat(b)), c.does(a, b), a, b)
			}
			for _, n := range bounds() {
				if fixed.Clamp(fixed.Sat(n), fixed.Sat(a), fixed.Sat(b)) != fixed.Clamp(n, a, b) {
					t.Error("Clamp", n, a, b)
				}
			}
		}
	}
}

// P8.3: sums and products go in any order.
func TestAnyOrder(t *testing.T) {
	l := someNumbers(3)
	for _, a := range l {
		for _, b := range l {
			want(t, "Add", fixed.Add(a, b), fixed.Add(b, a), a, b)
			want(t, "Mul", fixed.Mul(a, b), fixed.Mul(b, a), a, b)
		}
	}
}

// P8.3: what is turned around turns what comes of it: both arguments of a sum, one of a product or of a quotient. By 0 nothing is turned around, as 0 less 0 is 0.
func TestTurnedAround(t *testing.T) {
	turn := func(n int64) int64 { return fixed.Sub(0, n) }
	l := someNumbers(4)
	for _, a := range l {
		want(t, "turn Sat", fixed.Sat(turn(a)), turn(fixed.Sat(a)), a)
		want(t, "turn Near", fixed.Near(turn(a)), turn(fixed.Near(a)), a)
		want(t, "turn twice", turn(turn(a)), fixed.Sat(a), a)
		for _, b := range l {
			want(t, "turn Add", fixed.Add(turn(a), turn(b)), turn(fixed.Add(a, b)), a, b)
			want(t, "turn Sub", fixed.Sub(turn(a), turn(b)), turn(fixed.Sub(a, b)), a, b)
			want(t, "Sub in the other order", fixed.Sub(b, a), turn(fixed.Sub(a, b)), a, b)
			want(t, "Sub as a sum", fixed.Add(a, turn(b)), fixed.Sub(a, b), a, b)
			want(t, "turn Mul", fixed.Mul(turn(a), b), turn(fixed.Mul(a, b)), a, b)
			want(t, "turn Mul", fixed.Mul(a, turn(b)), turn(fixed.Mul(a, b)), a, b)
			want(t, "turn Div", fixed.Div(turn(a), b), turn(fixed.Div(a, b)), a, b)
			if b != 0 {
				want(t, "turn Div", fixed.Div(a, turn(b)), turn(fixed.Div(a, b)), a, b)
			}
		}
	}
}

// P8.3: sums, and products by what is above 0, keep an order. So do quotients by that, by the same words, and the calls of one number.
func TestKeptOrder(t *testing.T) {
	rising := edges()
	for i, more := range rising[1:] {
		less := rising[i]
		for _, c := range ones() {
			if c.does(less) > c.does(more) {
				t.Error(c.name, less, more)
			}
		}
		for _, by := range someNumbers(5) {
			for _, c := range twos() {
				if sum := c.name == "Add" || c.name == "Sub"; !sum && by <= 0 {
					continue
				}
				if c.does(less, by) > c.does(more, by) {
					t.Error(c.name, less, more, "by", by)
				}
			}
		}
	}
}

// A whole and 0 leave numbers as they are, and so do bounds that are the widest.
func TestWhatLeavesNumbers(t *testing.T) {
	for _, n := range right() {
		want(t, "Add 0", fixed.Add(n, 0), n, n)
		want(t, "Sub 0", fixed.Sub(n, 0), n, n)
		want(t, "Sub itself", fixed.Sub(n, n), 0, n)
		want(t, "Mul by a whole", fixed.Mul(n, api.One), n, n)
		want(t, "Mul by 0", fixed.Mul(n, 0), 0, n)
		want(t, "Div by a whole", fixed.Div(n, api.One), n, n)
		want(t, "Clamp", fixed.Clamp(n, -api.MaxFix, api.MaxFix), n, n)
		if n != 0 {
			want(t, "Div by itself", fixed.Div(n, n), api.One, n)
		}
	}
}

// P3: what a call answers hangs on its arguments alone, also where many ask at a time.
func TestManyAtATime(t *testing.T) {
	l := right()
	var group sync.WaitGroup
	for range 8 {
		group.Go(func() {
			for _, a := range l {
				for _, b := range l {
					for _, c := range twos() {
						if c.does(a, b) != c.does(a, b) {
							t.Error(c.name, a, b, "is another one the second time")
						}
					}
				}
			}
		})
	}
	group.Wait()
}
