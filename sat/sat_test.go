package sat

import (
	"math"
	"math/big"
	"math/rand"
	"slices"
	"testing"
)

const (
	top    = math.MaxInt64
	bottom = math.MinInt64
)

// edges are numbers at and beside the bounds, at and beside 0, and about the
// roots of the bounds, where products begin not to fit.
func edges() []int64 {
	return []int64{
		bottom, bottom + 1, bottom + 2, bottom / 2, bottom/2 - 1, bottom/2 + 1,
		-1 << 32, -3037000500, -3037000499, -1 << 31, -1000000, -7, -2, -1,
		0, 1, 2, 7, 1000000, 1 << 31, 3037000499, 3037000500, 1 << 32,
		top / 2, top/2 + 1, top/2 + 2, top - 2, top - 1, top,
	}
}

// numbers are the edges and some numbers of all lengths, always the same ones.
func numbers() []int64 {
	source := rand.New(rand.NewSource(1))
	l := edges()
	for range 150 {
		l = append(l, int64(source.Uint64())>>source.Intn(64))
	}
	return l
}

// bounded is what a number without bound is, held between the bounds.
func bounded(n *big.Int) int64 {
	if n.IsInt64() {
		return n.Int64()
	}
	if n.Sign() < 0 {
		return bottom
	}
	return top
}

func bigSum(l []int64) *big.Int {
	n := new(big.Int)
	for _, v := range l {
		n.Add(n, big.NewInt(v))
	}
	return n
}

// P1.1: ordinary pairs and the edges, written out.
func TestPairs(t *testing.T) {
	for _, x := range []struct{ a, b, add, sub, mul int64 }{
		{0, 0, 0, 0, 0},
		{2, 3, 5, -1, 6},
		{-2, 3, 1, -5, -6},
		{-4, -5, -9, 1, 20},
		{top, 1, top, top - 1, top},
		{top, -1, top - 1, top, -top},
		{top, 0, top, top, 0},
		{top, 2, top, top - 2, top},
		{top, -2, top - 2, top, bottom},
		{top, top, top, 0, top},
		{top, bottom, -1, top, bottom},
		{bottom, 0, bottom, bottom, 0},
		{bottom, 1, bottom + 1, bottom, bottom},
		{bottom, -1, bottom, bottom + 1, top},
		{bottom, 2, bottom + 2, bottom, bottom},
		{bottom, top, -1, bottom, bottom},
		{bottom, bottom, bottom, 0, top},
		{0, bottom, bottom, top, 0},
		{-1, bottom, bottom, top, top},
		{1, bottom, bottom + 1, top, bottom},
		{bottom / 2, 2, bottom/2 + 2, bottom/2 - 2, bottom},
		{bottom / 2, -2, bottom/2 - 2, bottom/2 + 2, top},
	} {
		if got := Add(x.a, x.b); got != x.add {
			t.Errorf("Add(%d, %d): %d, not %d", x.a, x.b, got, x.add)
		}
		if got := Sub(x.a, x.b); got != x.sub {
			t.Errorf("Sub(%d, %d): %d, not %d", x.a, x.b, got, x.sub)
		}
		if got := Mul(x.a, x.b); got != x.mul {
			t.Errorf("Mul(%d, %d): %d, not %d", x.a, x.b, got, x.mul)
		}
	}
}

// P1.1: single numbers and the edges, written out.
func TestSingles(t *testing.T) {
	for _, x := range []struct{ a, neg, abs int64 }{
		{0, 0, 0},
		{1, -1, 1},
		{-1, 1, 1},
		{1000000, -1000000, 1000000},
		{-1000000, 1000000, 1000000},
		{top, -top, top},
		{bottom, top, top},
		{bottom + 1, top, top},
		{bottom + 2, top - 1, top - 1},
	} {
		if got := Neg(x.a); got != x.neg {
			t.Errorf("Neg(%d): %d, not %d", x.a, got, x.neg)
		}
		if got := Abs(x.a); got != x.abs {
			t.Errorf("Abs(%d): %d, not %d", x.a, got, x.abs)
		}
	}
}

// P1.1: all pairs, against numbers without bound.
func TestAgainstBigNumbers(t *testing.T) {
	l := numbers()
	for _, a := range l {
		x := big.NewInt(a)
		if got, want := Neg(a), bounded(new(big.Int).Neg(x)); got != want {
			t.Errorf("Neg(%d): %d, not %d", a, got, want)
		}
		if got, want := Abs(a), bounded(new(big.Int).Abs(x)); got != want {
			t.Errorf("Abs(%d): %d, not %d", a, got, want)
		}
		for _, b := range l {
			y := big.NewInt(b)
			if got, want := Add(a, b), bounded(new(big.Int).Add(x, y)); got != want {
				t.Errorf("Add(%d, %d): %d, not %d", a, b, got, want)
			}
			if got, want := Sub(a, b), bounded(new(big.Int).Sub(x, y)); got != want {
				t.Errorf("Sub(%d, %d): %d, not %d", a, b, got, want)
			}
			if got, want := Mul(a, b), bounded(new(big.Int).Mul(x, y)); got != want {
				t.Errorf("Mul(%d, %d): %d, not %d", a, b, got, want)
			}
		}
	}
}

// P1.2: Clamp, also where hi is below lo.
func TestClamp(t *testing.T) {
	for _, x := range []struct{ a, lo, hi, want int64 }{
		{5, 0, 9, 5},
		{0, 0, 9, 0},
		{9, 0, 9, 9},
		{-1, 0, 9, 0},
		{10, 0, 9, 9},
		{8, 9, 9, 9},
		{9, 9, 9, 9},
		{10, 9, 9, 9},
		{-1, 9, 0, 9},
		{0, 9, 0, 9},
		{5, 9, 0, 9},
		{8, 9, 0, 9},
		{9, 9, 0, 0},
		{10, 9, 0, 0},
		{bottom, bottom, top, bottom},
		{0, bottom, top, 0},
		{top, bottom, top, top},
		{bottom, top, bottom, top},
		{0, top, bottom, top},
		{top, top, bottom, bottom},
		{bottom, -3, 3, -3},
		{top, -3, 3, 3},
	} {
		if got := Clamp(x.a, x.lo, x.hi); got != x.want {
			t.Errorf("Clamp(%d, %d, %d): %d, not %d", x.a, x.lo, x.hi, got, x.want)
		}
	}
}

// P1.2: Sum, written out: nothing, ordinary lists, the bounds, and parts that
// go beyond the bounds and come back.
func TestSum(t *testing.T) {
	for _, x := range []struct {
		l    []int64
		want int64
	}{
		{nil, 0},
		{[]int64{}, 0},
		{[]int64{7}, 7},
		{[]int64{1, 2, 3}, 6},
		{[]int64{1, -2, 3, -4}, -2},
		{[]int64{top}, top},
		{[]int64{bottom}, bottom},
		{[]int64{top, 1}, top},
		{[]int64{bottom, -1}, bottom},
		{[]int64{top - 1, 1}, top},
		{[]int64{bottom + 1, -1}, bottom},
		{[]int64{top, 1, -1}, top},
		{[]int64{top, 1, -2}, top - 1},
		{[]int64{bottom, -1, 2}, bottom + 1},
		{[]int64{top, top, bottom, bottom}, -2},
		{[]int64{bottom, bottom, top, top}, -2},
		{[]int64{top, top, top, bottom}, top},
		{[]int64{bottom, bottom, top}, bottom},
		{[]int64{top, top, top, top, -top, -top, -top, -top, 5}, 5},
	} {
		if got := Sum(x.l); got != x.want {
			t.Errorf("Sum(%v): %d, not %d", x.l, got, x.want)
		}
	}
}

// P1.2: Sum of lists of many lengths, against numbers without bound, and of
// the same list turned round.
func TestSumAgainstBigNumbers(t *testing.T) {
	source := rand.New(rand.NewSource(2))
	from := numbers()
	for range 2000 {
		var l []int64
		for range source.Intn(12) {
			l = append(l, from[source.Intn(len(from))])
		}
		want := bounded(bigSum(l))
		if got := Sum(l); got != want {
			t.Errorf("Sum(%v): %d, not %d", l, got, want)
		}
		slices.Reverse(l)
		if got := Sum(l); got != want {
			t.Errorf("Sum(%v), turned round: %d, not %d", l, got, want)
		}
	}
}

// P1.2: a long way beyond the bounds, and all the way back.
func TestSumOfManyGoesOutAndBack(t *testing.T) {
	const many = 1 << 20
	for _, edge := range []int64{top, bottom} {
		l := make([]int64, 0, 2*many)
		for range many {
			l = append(l, edge)
		}
		if got := Sum(l); got != edge {
			t.Errorf("Sum of %d times %d: %d", many, edge, got)
		}
		for range many {
			l = append(l, ^edge)
		}
		// Each pair of edge and ^edge is -1.
		if got := Sum(l); got != -many {
			t.Errorf("Sum of %d times %d and back: %d, not %d", many, edge, got, -many)
		}
	}
}

// Rule 2 of the document: what is handed in is not changed, its spare room
// included.
func TestSumLeavesTheList(t *testing.T) {
	whole := []int64{top, 1, -2, 40, 50}
	before := slices.Clone(whole)
	Sum(whole[:3])
	if !slices.Equal(whole, before) {
		t.Errorf("the list is %v now, it was %v", whole, before)
	}
}

// P1.3: what fits is as it is.
func TestWhatFitsIsAsItIs(t *testing.T) {
	for _, a := range numbers() {
		if Add(a, 0) != a || Add(0, a) != a || Sub(a, 0) != a || Mul(a, 1) != a || Mul(1, a) != a {
			t.Errorf("%d is not as it is", a)
		}
		if Sub(a, a) != 0 || Mul(a, 0) != 0 || Mul(0, a) != 0 {
			t.Errorf("%d does not come to 0", a)
		}
		if Clamp(a, bottom, top) != a || Clamp(a, a, a) != a || Sum([]int64{a}) != a {
			t.Errorf("%d is not left as it is", a)
		}
		if a != bottom && (Neg(a) != -a || Neg(Neg(a)) != a || Mul(a, -1) != -a) {
			t.Errorf("%d is not as it is when turned below 0 and back", a)
		}
	}
	for a := int64(-200); a <= 200; a++ {
		for b := int64(-200); b <= 200; b++ {
			if Add(a, b) != a+b || Sub(a, b) != a-b || Mul(a, b) != a*b || Sum([]int64{a, b}) != a+b {
				t.Errorf("%d and %d are not as they are", a, b)
			}
		}
	}
}

// P1.3: Add and Mul are the same turned round.
func TestTurnedRound(t *testing.T) {
	l := numbers()
	for _, a := range l {
		for _, b := range l {
			if Add(a, b) != Add(b, a) {
				t.Errorf("Add of %d and %d is another turned round", a, b)
			}
			if Mul(a, b) != Mul(b, a) {
				t.Errorf("Mul of %d and %d is another turned round", a, b)
			}
		}
	}
}
