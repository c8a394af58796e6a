package sum_test

import (
	"bytes"
	"math/rand/v2"
	"testing"

	"governor/sum"
)

// P2.2: cut anywhere, at its beginning and at its end too.
func TestTwoParts(t *testing.T) {
	for _, b := range someRows() {
		whole := sum.Of(b)
		for i := range len(b) + 1 {
			wantSum(t, "two parts", b, sum.More(sum.Of(b[:i]), b[i:]), whole)
		}
	}
}

func TestThreeParts(t *testing.T) {
	b := randomRow(rand.New(rand.NewPCG(2, 3)), 40)
	whole := sum.Of(b)
	for i := range len(b) + 1 {
		for j := i; j <= len(b); j++ {
			wantSum(t, "three parts", b, sum.More(sum.More(sum.Of(b[:i]), b[i:j]), b[j:]), whole)
		}
	}
}

func TestByteByByte(t *testing.T) {
	for _, b := range someRows() {
		n := sum.Of(nil)
		for i := range b {
			n = sum.More(n, b[i:i+1])
			n = sum.More(n, nil)
		}
		wantSum(t, "byte by byte", b, n, sum.Of(b))
	}
}

// Parts behind a sum that is any number sum up, too.
func TestPartsBehindAnyNumber(t *testing.T) {
	b := randomRow(rand.New(rand.NewPCG(2, 4)), 30)
	for _, n := range someSums() {
		for i := range len(b) + 1 {
			wantSum(t, "two parts behind", b, sum.More(sum.More(n, b[:i]), b[i:]), sum.More(n, b))
		}
	}
}

// turn is b with these bits the other way, numbered as the register takes them: byte by byte, the lowest bit first.
func turn(b []byte, bits ...int) []byte {
	b = bytes.Clone(b)
	for _, bit := range bits {
		b[bit/8] ^= 1 << (bit % 8)
	}
	return b
}

func wantUnlike(t *testing.T, b []byte, bits ...int) {
	t.Helper()
	if sum.Of(b) == sum.Of(turn(b, bits...)) {
		t.Errorf("%d bytes %.40q have one sum with bits %v turned", len(b), b, bits)
	}
}

// P2.3

func TestOneBitIsFound(t *testing.T) {
	for _, b := range someRows() {
		for i := range 8 * len(b) {
			wantUnlike(t, b, i)
		}
	}
}

// Any two, up to 31 apart, in one byte and across bytes.
func TestTwoBitsAreFound(t *testing.T) {
	for _, b := range someRows() {
		if len(b) > 60 {
			continue
		}
		for i := range 8 * len(b) {
			for j := i + 1; j < min(i+32, 8*len(b)); j++ {
				wantUnlike(t, b, i, j)
			}
		}
	}
}

func TestManyBitsAreFound(t *testing.T) {
	r := rand.New(rand.NewPCG(2, 5))
	for range 20000 {
		b := randomRow(r, 1+r.IntN(40))
		first := r.IntN(8 * len(b))
		bits := []int{first}
		for i := first + 1; i < min(first+32, 8*len(b)); i++ {
			if r.IntN(2) == 1 {
				bits = append(bits, i)
			}
		}
		wantUnlike(t, b, bits...)
	}
}

// All bits of a span together, of every length up to 32, wherever it begins.
func TestSpansAreFound(t *testing.T) {
	b := randomRow(rand.New(rand.NewPCG(2, 6)), 12)
	for first := range 8 * len(b) {
		var bits []int
		for i := first; i < min(first+32, 8*len(b)); i++ {
			bits = append(bits, i)
			wantUnlike(t, b, bits...)
		}
	}
}

// independent asks whether none of the numbers is made of others by turning them into one.
func independent(numbers []uint32) bool {
	var leads [32]uint32
	for _, n := range numbers {
		for i := 31; i >= 0 && n != 0; i-- {
			if n>>i&1 == 0 {
				continue
			}
			if leads[i] == 0 {
				leads[i] = n
				break
			}
			n ^= leads[i]
		}
		if n == 0 {
			return false
		}
	}
	return true
}

// By P2.4 what a set of turned bits does to the sum is what each does, turned into one; so all 2^32 - 1 sets of 32 bits in a row are found if what these do is independent.
func TestAllSetsOf32BitsAreFound(t *testing.T) {
	for _, n := range []int{4, 5, 8, 33, 300} {
		b := make([]byte, n)
		for first := range 8*n - 31 {
			var does []uint32
			for i := range 32 {
				does = append(does, sum.Of(b)^sum.Of(turn(b, first+i)))
			}
			if !independent(does) {
				t.Fatalf("%d bytes: some of the 32 bits from %d on are not found", n, first)
			}
		}
	}
}

// turned is rows of one length, bit by bit in one.
func turned(rows ...[]byte) []byte {
	b := make([]byte, len(rows[0]))
	for _, row := range rows {
		for i, c := range row {
			b[i] ^= c
		}
	}
	return b
}

func wantTurned(t *testing.T, a, b, c []byte) {
	t.Helper()
	all := turned(a, b, c)
	wantSum(t, "three turned", all, sum.Of(all), sum.Of(a)^sum.Of(b)^sum.Of(c))
}

// P2.4

func TestThreeRowsTurned(t *testing.T) {
	r := rand.New(rand.NewPCG(2, 7))
	for n := range 80 {
		for range 20 {
			wantTurned(t, randomRow(r, n), randomRow(r, n), randomRow(r, n))
		}
	}
	wantTurned(t, randomRow(r, 5000), randomRow(r, 5000), randomRow(r, 5000))
}

func TestThreeRowsTurnedAtTheirBounds(t *testing.T) {
	wantTurned(t, nil, nil, nil)
	wantTurned(t, []byte{}, nil, []byte{})
	for n := range 20 {
		noughts, ones := make([]byte, n), bytes.Repeat([]byte{255}, n)
		for _, b := range [][]byte{noughts, ones, randomRow(rand.New(rand.NewPCG(2, 8)), n)} {
			wantTurned(t, b, b, b)
			wantTurned(t, b, b, noughts)
			wantTurned(t, noughts, ones, b)
		}
	}
}

// Behind any number, of three numbers turned into one.
func TestThreeRowsTurnedBehindNumbers(t *testing.T) {
	r := rand.New(rand.NewPCG(2, 9))
	for n := range 40 {
		a, b, c := randomRow(r, n), randomRow(r, n), randomRow(r, n)
		x, y, z := r.Uint32(), r.Uint32(), r.Uint32()
		all := turned(a, b, c)
		wantSum(t, "three turned", all, sum.More(x^y^z, all), sum.More(x, a)^sum.More(y, b)^sum.More(z, c))
	}
}
