package muldiv

import (
	"math"
	"math/big"
	"math/rand"
	"testing"

	"flywheel/api"
)

const (
	top    = math.MaxInt64
	bottom = math.MinInt64
)

// ways are the ways of rounding, from the least answer to the greatest one.
func ways() []int { return []int{api.Down, api.Near, api.Up} }

// noWays are numbers that are no way of rounding.
func noWays() []int { return []int{0, -1, -2, -3, 4, 5, math.MaxInt, math.MinInt} }

// edges are numbers at and beside the bounds, at and beside 0, and about the
// roots of the bounds, where products begin not to fit.
func edges() []int64 {
	return []int64{
		bottom, bottom + 1, bottom + 2, bottom / 2, bottom/2 - 1,
		-1 << 32, -3037000500, -1 << 31, -1000000, -7, -3, -2, -1,
		0, 1, 2, 3, 7, 1000000, 1 << 31, 3037000499, 3037000500, 1 << 32,
		top / 2, top/2 + 1, top - 2, top - 1, top,
	}
}

// numbers are the edges and some numbers of all lengths, always the same ones.
func numbers() []int64 {
	source := rand.New(rand.NewSource(1))
	l := edges()
	for range 50 {
		l = append(l, int64(source.Uint64())>>source.Intn(64))
	}
	return l
}

// exact is a times b divided by c and rounded, without bound; c is not 0.
func exact(a, b, c int64, how int) *big.Int {
	n := new(big.Int).Mul(big.NewInt(a), big.NewInt(b))
	by := big.NewInt(c)
	if c < 0 {
		n.Neg(n)
		by.Neg(by)
	}
	// Div is rounded down where what it divides by is above 0.
	switch how {
	case api.Near: // half of by more, both taken twice
		n.Lsh(n, 1).Add(n, by)
		by.Lsh(by, 1)
	case api.Up:
		n.Add(n, by).Sub(n, big.NewInt(1))
	}
	return n.Div(n, by)
}

// bounded is what a number without bound is, held between the bounds.
func bounded(n *big.Int) int64 {
	if n.IsInt64() {
		return n.Int64()
	}
	if n.Sign() < 0 {
		return bottom
	}
	return top
}

// quotients is a row of a table: a times b divided by c in each way.
type quotients struct {
	a, b, c        int64
	down, near, up int64
}

// check holds Do and Fits against the rows, with a and b turned round too.
func check(t *testing.T, fits bool, rows []quotients) {
	t.Helper()
	for _, x := range rows {
		for i, want := range []int64{x.down, x.near, x.up} {
			how := ways()[i]
			if got := Do(x.a, x.b, x.c, how); got != want {
				t.Errorf("Do(%d, %d, %d, %d): %d, not %d", x.a, x.b, x.c, how, got, want)
			}
			if got := Do(x.b, x.a, x.c, how); got != want {
				t.Errorf("Do(%d, %d, %d, %d): %d, not %d", x.b, x.a, x.c, how, got, want)
			}
			if Fits(x.a, x.b, x.c, how) != fits || Fits(x.b, x.a, x.c, how) != fits {
				t.Errorf("Fits(%d, %d, %d, %d) is not %v", x.a, x.b, x.c, how, fits)
			}
		}
	}
}

// P2.1: ordinary quotients on both sides of 0, halves among them.
func TestOrdinary(t *testing.T) {
	check(t, true, []quotients{
		{0, 0, 1, 0, 0, 0},
		{0, 5, 3, 0, 0, 0},
		{0, -5, 3, 0, 0, 0},
		{0, 5, -3, 0, 0, 0},
		{6, 1, 3, 2, 2, 2},
		{-6, 1, 3, -2, -2, -2},
		{3, 5, 15, 1, 1, 1},
		{1, 1, 3, 0, 0, 1},
		{2, 1, 3, 0, 1, 1},
		{-1, 1, 3, -1, 0, 0},
		{-2, 1, 3, -1, -1, 0},
		{1, 1, -3, -1, 0, 0},
		{2, 1, -3, -1, -1, 0},
		{-2, 1, -3, 0, 1, 1},
		{-2, -2, -3, -2, -1, -1},
		{7, 1, 2, 3, 4, 4},
		{-7, 1, 2, -4, -3, -3},
		{7, 1, -2, -4, -3, -3},
		{-7, 1, -2, 3, 4, 4},
		{1, 1, 2, 0, 1, 1},
		{-1, 1, 2, -1, 0, 0},
		{3, 3, 6, 1, 2, 2},
		{3, -3, 6, -2, -1, -1},
		{10, 10, 7, 14, 14, 15},
		{10, -10, 7, -15, -14, -14},
		{1000000, 8, 3, 2666666, 2666667, 2666667},
	})
}

// P2.1: the bounds as each of a, b and c.
func TestBounds(t *testing.T) {
	check(t, true, []quotients{
		{top, 1, 1, top, top, top},
		{top, -1, 1, -top, -top, -top},
		{top, 1, -1, -top, -top, -top},
		{top, 1, 2, top / 2, top/2 + 1, top/2 + 1},
		{top, -1, 2, -top/2 - 1, -top / 2, -top / 2},
		{bottom, 1, 1, bottom, bottom, bottom},
		{bottom, -1, -1, bottom, bottom, bottom},
		{bottom, 1, 2, bottom / 2, bottom / 2, bottom / 2},
		{bottom, 1, -2, 1 << 62, 1 << 62, 1 << 62},
		{bottom, 1, 3, -3074457345618258603, -3074457345618258603, -3074457345618258602},
		{0, top, 1, 0, 0, 0},
		{0, bottom, -1, 0, 0, 0},
		{0, 0, top, 0, 0, 0},
		{0, 0, bottom, 0, 0, 0},
		{1, 1, top, 0, 0, 1},
		{-1, 1, top, -1, 0, 0},
		{1, 1, bottom, -1, 0, 0},
		{-1, 1, bottom, 0, 0, 1},
		{1, 1 << 62, bottom, -1, 0, 0},
		{1, 1<<62 + 1, bottom, -1, -1, 0},
		{-1, 1 << 62, bottom, 0, 1, 1},
		{-1, 1<<62 - 1, bottom, 0, 0, 1},
		{1, 1 << 62, top, 0, 1, 1},
		{1, 1<<62 - 1, top, 0, 0, 1},
		{-1, 1 << 62, top, -1, -1, 0},
		{1, top, bottom, -1, -1, 0},
		{1, bottom, top, -2, -1, -1},
		{top - 1, 1, top, 0, 1, 1},
		{bottom, 1, bottom, 1, 1, 1},
		{top, 1, top, 1, 1, 1},
	})
}

// P2.1: products beyond int64 that come back by the division.
func TestProductsThatComeBack(t *testing.T) {
	check(t, true, []quotients{
		{top, top, top, top, top, top},
		{top, bottom, bottom, top, top, top},
		{top, bottom, top, bottom, bottom, bottom},
		{bottom, bottom, bottom, bottom, bottom, bottom},
		{top, top, bottom, -top, -top + 1, -top + 1},
		{1 << 40, 1 << 40, 1 << 50, 1 << 30, 1 << 30, 1 << 30},
		{1 << 40, -1 << 40, 1 << 50, -1 << 30, -1 << 30, -1 << 30},
		{1 << 62, 8, 8, 1 << 62, 1 << 62, 1 << 62},
		{1 << 62, 3, 2, 3 << 61, 3 << 61, 3 << 61},
		{top, 2, 3, 6148914691236517204, 6148914691236517205, 6148914691236517205},
		{bottom, 2, 3, -6148914691236517206, -6148914691236517205, -6148914691236517205},
	})
}

// P2.1: what does not come back is held at the bound on its side.
func TestHeld(t *testing.T) {
	check(t, false, []quotients{
		{1 << 62, 8, 1, top, top, top},
		{1 << 62, -8, 1, bottom, bottom, bottom},
		{1 << 62, 8, -1, bottom, bottom, bottom},
		{1 << 62, -8, -1, top, top, top},
		{1 << 62, 2, 1, top, top, top},
		{bottom, -1, 1, top, top, top},
		{bottom, 1, -1, top, top, top},
		{bottom, 2, 1, bottom, bottom, bottom},
		{top, 2, 1, top, top, top},
		{top, 3, 2, top, top, top},
		{top, -3, 2, bottom, bottom, bottom},
		{bottom, 3, -2, top, top, top},
		{top, top, 1, top, top, top},
		{top, bottom, 1, bottom, bottom, bottom},
		{bottom, bottom, 1, top, top, top},
		{bottom, bottom, -1, bottom, bottom, bottom},
		{bottom, bottom, top, top, top, top},
		{1 << 32, 1 << 32, 1, top, top, top},
		{1 << 32, -1 << 32, 1, bottom, bottom, bottom},
		// 2^64 - 1/2 and -2^64 + 1/2: rounded, they go on into the upper half.
		{31 * 8191, 145295143558111, 2, top, top, top},
		{31 * 8191, -145295143558111, 2, bottom, bottom, bottom},
	})
}

// P2.1: it is the rounded quotient that is held or fits: quotients less than 1
// from a bound, on both sides of it.
func TestBesideTheBounds(t *testing.T) {
	for _, x := range []struct {
		what                    string
		a, b, c                 int64
		down, near, up          int64
		fitDown, fitNear, fitUp bool
	}{
		{"2^63 - 2/3", 22, 1257732550480196701, 3, top, top, top, true, true, false},
		{"2^63 - 1/2", 3, 6148914691236517205, 2, top, top, top, true, false, false},
		{"2^63 - 1/3", 311, 88971434439113593, 3, top, top, top, true, false, false},
		{"-2^63 + 1/3", -311, 88971434439113593, 3, bottom, bottom, -top, true, true, true},
		{"-2^63 + 1/2", 3, 6148914691236517205, -2, bottom, -top, -top, true, true, true},
		{"-2^63 - 1/3", 25 * 39679, -27893965181143, 3, bottom, bottom, bottom, false, true, true},
		{"-2^63 - 1/2", 274177, 67280421310721, -2, bottom, bottom, bottom, false, true, true},
		{"-2^63 - 2/3", 26 * 211, -5295463 * 952469857, 3, bottom, bottom, bottom, false, false, true},
	} {
		for i, want := range []int64{x.down, x.near, x.up} {
			if got := Do(x.a, x.b, x.c, ways()[i]); got != want {
				t.Errorf("%s, rounded by %d: %d, not %d", x.what, ways()[i], got, want)
			}
		}
		for i, want := range []bool{x.fitDown, x.fitNear, x.fitUp} {
			if got := Fits(x.a, x.b, x.c, ways()[i]); got != want {
				t.Errorf("%s, rounded by %d: fits is %v", x.what, ways()[i], got)
			}
		}
	}
}

// P2.1: all threes of the numbers in each way, against numbers without bound.
func TestAgainstBigNumbers(t *testing.T) {
	l := numbers()
	for _, a := range l {
		for _, b := range edges() {
			for _, c := range l {
				if c == 0 {
					continue
				}
				for _, how := range ways() {
					want := exact(a, b, c, how)
					if got := Do(a, b, c, how); got != bounded(want) {
						t.Fatalf("Do(%d, %d, %d, %d): %d, not %d", a, b, c, how, got, want)
					}
					if got := Fits(a, b, c, how); got != want.IsInt64() {
						t.Fatalf("Fits(%d, %d, %d, %d): %v, of %d", a, b, c, how, got, want)
					}
				}
			}
		}
	}
}

// P2.1: all small threes: every half, every quotient below 0.
func TestAgainstBigNumbersNearZero(t *testing.T) {
	for a := int64(-40); a <= 40; a++ {
		for c := int64(-12); c <= 12; c++ {
			if c == 0 {
				continue
			}
			for _, how := range ways() {
				want := exact(a, 1, c, how).Int64()
				if got := Do(a, 1, c, how); got != want || !Fits(a, 1, c, how) {
					t.Errorf("Do(%d, 1, %d, %d): %d, not %d", a, c, how, got, want)
				}
				if got := Do(-1, -a, c, how); got != want {
					t.Errorf("Do(-1, %d, %d, %d): %d, not %d", -a, c, how, got, want)
				}
			}
		}
	}
}

// P2.1: c is 0, or how is none, or both.
func TestWrongInputs(t *testing.T) {
	l := edges()
	for _, a := range l {
		for _, b := range l {
			for _, how := range append(ways(), noWays()...) {
				if Do(a, b, 0, how) != 0 || Fits(a, b, 0, how) {
					t.Errorf("%d times %d by 0, rounded by %d, is something", a, b, how)
				}
			}
			for _, how := range noWays() {
				if Do(a, b, 3, how) != 0 || Fits(a, b, 3, how) {
					t.Errorf("%d times %d by 3, rounded by %d, is something", a, b, how)
				}
				if Do(a, 1, b, how) != 0 || Fits(a, 1, b, how) {
					t.Errorf("%d by %d, rounded by %d, is something", a, b, how)
				}
			}
		}
	}
}

// P2.2: roots written out: nothing, numbers below 0, squares and their
// neighbours, the bounds.
func TestRoot(t *testing.T) {
	for _, x := range []struct{ a, want int64 }{
		{bottom, 0},
		{-1 << 32, 0},
		{-4, 0},
		{-1, 0},
		{0, 0},
		{1, 1},
		{2, 1},
		{3, 1},
		{4, 2},
		{5, 2},
		{8, 2},
		{9, 3},
		{999999, 999},
		{1000000, 1000},
		{1000001, 1000},
		{1<<62 - 1, 1<<31 - 1},
		{1 << 62, 1 << 31},
		{1<<62 + 1, 1 << 31},
		{9223372030926249000, 3037000498},
		{9223372030926249001, 3037000499},
		{9223372030926249002, 3037000499},
		{top - 1, 3037000499},
		{top, 3037000499},
	} {
		if got := Root(x.a); got != x.want {
			t.Errorf("Root(%d): %d, not %d", x.a, got, x.want)
		}
	}
}

// P2.2: squares of all lengths with their neighbours, and numbers between.
func TestRootOfSquares(t *testing.T) {
	source := rand.New(rand.NewSource(2))
	for i := range int64(5000) {
		root := i + 1
		if i >= 2000 {
			root = 1 + source.Int63n(3037000499)>>source.Intn(31)
		}
		square := root * root
		if Root(square) != root || Root(square-1) != root-1 {
			t.Errorf("Root about the square of %d: %d, %d", root, Root(square-1), Root(square))
		}
		if root > 1 && Root(square+1) != root {
			t.Errorf("Root of the square of %d and 1: %d", root, Root(square+1))
		}
	}
	for _, a := range numbers() {
		if a < 0 {
			continue
		}
		if got, want := Root(a), new(big.Int).Sqrt(big.NewInt(a)).Int64(); got != want {
			t.Errorf("Root(%d): %d, not %d", a, got, want)
		}
	}
}

// P2.3: Down is at most Near, Near at most Up, and they differ by at most 1.
func TestWaysInOrder(t *testing.T) {
	l := numbers()
	for _, a := range l {
		for _, b := range edges() {
			for _, c := range l {
				down, near, up := Do(a, b, c, api.Down), Do(a, b, c, api.Near), Do(a, b, c, api.Up)
				if down > near || near > up {
					t.Fatalf("%d times %d by %d: %d, %d, %d are not in order", a, b, c, down, near, up)
				}
				if down != up && down+1 != up {
					t.Fatalf("%d times %d by %d: from %d to %d is more than 1", a, b, c, down, up)
				}
			}
		}
	}
}

// P2.4: what is multiplied and divided by one number is as it was, in each
// way, and fits.
func TestThereAndBack(t *testing.T) {
	l := numbers()
	for _, a := range l {
		for _, b := range l {
			if b == 0 {
				continue
			}
			for _, how := range ways() {
				if got := Do(a, b, b, how); got != a || !Fits(a, b, b, how) {
					t.Errorf("Do(%d, %d, %d, %d): %d", a, b, b, how, got)
				}
			}
		}
	}
}
