package fixed

import (
	"math"
	"math/big"
	"math/rand"
	"testing"

	"flywheel/api"
)

const (
	one    = api.One
	top    = math.MaxInt64
	bottom = math.MinInt64
)

// edges are numbers at and beside the bounds, at and beside 0, about the point
// and its half, and about where whole numbers begin not to fit.
func edges() []int64 {
	return []int64{
		bottom, bottom + 1, bottom + 2, bottom / 2, bottom/2 + 1,
		-1<<31*one + one, -22 * one, -one - 1, -one, -one + 1, -3 * one / 2, -one / 2,
		-1<<31 - 1, -1 << 31, -1<<31 + 1, -7, -3, -2, -1,
		0, 1, 2, 3, 7, 1<<31 - 1, 1 << 31, 1<<31 + 1,
		one / 4, 3 * one / 2, one - 1, one, one + 1, 22*one - 1, 22 * one,
		top/2 - 1, top / 2, top/2 + 1, top - one, top - 2, top - 1, top,
	}
}

// numbers are the edges and some numbers of all lengths, always the same ones.
func numbers() []int64 {
	source := rand.New(rand.NewSource(1))
	l := edges()
	for range 100 {
		l = append(l, int64(source.Uint64())>>source.Intn(64))
	}
	return l
}

// bounded is what a number without bound is, held between the bounds.
func bounded(n *big.Int) int64 {
	if n.IsInt64() {
		return n.Int64()
	}
	if n.Sign() < 0 {
		return bottom
	}
	return top
}

// nearest is n divided by by, rounded to the nearest number, of two to the
// greater one: half of by more, both taken twice, rounded down.
func nearest(n, by *big.Int) *big.Int {
	n, by = new(big.Int).Set(n), new(big.Int).Set(by)
	if by.Sign() < 0 {
		n.Neg(n)
		by.Neg(by)
	}
	n.Lsh(n, 1).Add(n, by)
	return n.Div(n, by.Lsh(by, 1))
}

func bigOne() *big.Int { return big.NewInt(one) }

// exactMul and exactDiv are held; exactMix is held at each of its three steps,
// as the document has them.
func exactMul(x, y int64) int64 {
	return bounded(nearest(new(big.Int).Mul(big.NewInt(x), big.NewInt(y)), bigOne()))
}

func exactDiv(x, y int64) int64 {
	if y == 0 {
		return 0
	}
	return bounded(nearest(new(big.Int).Mul(big.NewInt(x), bigOne()), big.NewInt(y)))
}

func exactMix(x, y, w int64) int64 {
	away := bounded(new(big.Int).Sub(big.NewInt(y), big.NewInt(x)))
	part := exactMul(away, w)
	return bounded(new(big.Int).Add(big.NewInt(x), big.NewInt(part)))
}

func exactHalf(x int64, n int) int64 {
	if n < 0 {
		return x
	}
	return new(big.Int).Rsh(big.NewInt(x), uint(min(n, 1000))).Int64()
}

// exactFade is the document's sentence, word by word.
func exactFade(x int64) int64 {
	if x <= 0 {
		return one
	}
	if x >= 22*one {
		return 0
	}
	y := exactMul(x, 6196328019)
	n := y / one
	f := y - n*one
	p := int64(one)
	p -= exactMul(f, 2977044472)
	p += exactMul(exactMul(f, f), 1031764991)
	p -= exactMul(exactMul(exactMul(f, f), f), 206353000)
	return exactHalf(p, int(n))
}

// P3.1: whole numbers with a point, to the bounds and beyond.
func TestOf(t *testing.T) {
	for _, x := range []struct{ n, want int64 }{
		{0, 0},
		{1, one},
		{-1, -one},
		{3, 3 * one},
		{-2, -2 * one},
		{22, 22 * one},
		{1<<31 - 1, top - one + 1},
		{1 << 31, top},
		{1<<31 + 1, top},
		{-1<<31 + 1, bottom + one},
		{-1 << 31, bottom},
		{-1<<31 - 1, bottom},
		{one, top},
		{-one, bottom},
		{top, top},
		{bottom, bottom},
	} {
		if got := Of(x.n); got != x.want {
			t.Errorf("Of(%d): %d, not %d", x.n, got, x.want)
		}
	}
}

// P3.1: what stands ahead of the point, rounded down also below 0.
func TestInt(t *testing.T) {
	for _, x := range []struct{ x, want int64 }{
		{0, 0},
		{1, 0},
		{one / 2, 0},
		{one - 1, 0},
		{one, 1},
		{one + 1, 1},
		{2*one - 1, 1},
		{2 * one, 2},
		{-1, -1},
		{-one / 2, -1},
		{-one + 1, -1},
		{-one, -1},
		{-one - 1, -2},
		{-2 * one, -2},
		{top, 1<<31 - 1},
		{top - one + 1, 1<<31 - 1},
		{top - one, 1<<31 - 2},
		{bottom, -1 << 31},
		{bottom + 1, -1 << 31},
		{bottom + one, -1<<31 + 1},
	} {
		if got := Int(x.x); got != x.want {
			t.Errorf("Int(%d): %d, not %d", x.x, got, x.want)
		}
	}
}

// P3.1: products: ordinary ones, halves on both sides of 0, the bounds, and
// what is held.
func TestMul(t *testing.T) {
	for _, x := range []struct{ x, y, want int64 }{
		{0, 0, 0},
		{0, top, 0},
		{0, bottom, 0},
		{one, one, one},
		{one, -one, -one},
		{-one, -one, one},
		{one / 2, one / 2, one / 4},
		{3 * one, 5 * one, 15 * one},
		{3 * one, -one / 2, -3 * one / 2},
		{1, one, 1},
		{1, one/2 - 1, 0},
		{1, one / 2, 1},
		{1, one/2 + 1, 1},
		{3, one / 2, 2},
		{-1, one/2 - 1, 0},
		{-1, one / 2, 0},
		{-1, one/2 + 1, -1},
		{-3, one / 2, -1},
		{-3, -one / 2, 2},
		{1, 1, 0},
		{-1, 1, 0},
		{1 << 16, 1 << 15, 1},
		{-1 << 16, 1 << 15, 0},
		{top, one, top},
		{top, -one, -top},
		{top, one / 2, 1 << 62},
		{top, -one / 2, -1<<62 + 1},
		{top, 1, 1 << 31},
		{top, -1, -1 << 31},
		{bottom, one, bottom},
		{bottom, one / 2, bottom / 2},
		{bottom, 1, -1 << 31},
		{bottom, -1, 1 << 31},
		{top, one + 1, top},
		{top, 2 * one, top},
		{top, -2 * one, bottom},
		{top, top, top},
		{top, bottom, bottom},
		{bottom, bottom, top},
		{bottom, -one, top},
		{bottom, 2 * one, bottom},
		{1 << 48, 1 << 47, top},
		{1 << 48, -1 << 47, bottom},
	} {
		if got := Mul(x.x, x.y); got != x.want {
			t.Errorf("Mul(%d, %d): %d, not %d", x.x, x.y, got, x.want)
		}
		if got := Mul(x.y, x.x); got != x.want {
			t.Errorf("Mul(%d, %d): %d, not %d", x.y, x.x, got, x.want)
		}
	}
}

// P3.1: quotients: ordinary ones, halves on both sides of 0, the bounds, what
// is held, and a divisor that is 0.
func TestDiv(t *testing.T) {
	for _, x := range []struct{ x, y, want int64 }{
		{0, one, 0},
		{one, one, one},
		{one, -one, -one},
		{-one, -one, one},
		{6 * one, 3 * one, 2 * one},
		{3 * one, -one / 2, -6 * one},
		{one, 2 * one, one / 2},
		{1, one, 1},
		{2, 4, one / 2},
		{1, 2 * one, 1},
		{-1, 2 * one, 0},
		{1, -2 * one, 0},
		{-1, -2 * one, 1},
		{3, 2 * one, 2},
		{-3, 2 * one, -1},
		{1, 2*one + 1, 0},
		{1, 2*one - 1, 1},
		{-1, 2*one - 1, -1},
		{one, 3 * one, 1431655765},
		{2 * one, 3 * one, 2863311531},
		{-one, 3 * one, -1431655765},
		{-2 * one, 3 * one, -2863311531},
		{top, one, top},
		{top, -one, -top},
		{top, 2 * one, 1 << 62},
		{-top, 2 * one, -1<<62 + 1},
		{bottom, one, bottom},
		{bottom, 2 * one, bottom / 2},
		{top, top, one},
		{bottom, bottom, one},
		{top, bottom, -one},
		{bottom, top, -one},
		{1, top, 0},
		{1, bottom, 0},
		{1 << 30, top, 1},
		{1 << 30, bottom, 0},
		{1<<30 - 1, top, 0},
		{one, top, 2},
		{one, bottom, -2},
		{1, 1, one},
		{top, 1, top},
		{top, -1, bottom},
		{top, one - 1, top},
		{bottom, 1, bottom},
		{bottom, -1, top},
		{bottom, -one, top},
		{1 << 31, 1, top},
		{-1 << 31, 1, bottom},
		{1 << 31, -1, bottom},
		{1<<31 + 1, -1, bottom},
		{0, 0, 0},
		{5, 0, 0},
		{-5, 0, 0},
		{one, 0, 0},
		{top, 0, 0},
		{bottom, 0, 0},
	} {
		if got := Div(x.x, x.y); got != x.want {
			t.Errorf("Div(%d, %d): %d, not %d", x.x, x.y, got, x.want)
		}
	}
}

// P3.1: all pairs, against numbers without bound.
func TestAgainstBigNumbers(t *testing.T) {
	l := numbers()
	for _, x := range l {
		if got, want := Of(x), bounded(new(big.Int).Mul(big.NewInt(x), bigOne())); got != want {
			t.Errorf("Of(%d): %d, not %d", x, got, want)
		}
		if got, want := Int(x), bounded(new(big.Int).Div(big.NewInt(x), bigOne())); got != want {
			t.Errorf("Int(%d): %d, not %d", x, got, want)
		}
		for _, y := range l {
			if got, want := Mul(x, y), exactMul(x, y); got != want {
				t.Errorf("Mul(%d, %d): %d, not %d", x, y, got, want)
			}
			if got, want := Div(x, y), exactDiv(x, y); got != want {
				t.Errorf("Div(%d, %d): %d, not %d", x, y, got, want)
			}
		}
	}
}

// P3.2: mixtures: weights at 0 and One, between, below 0 and above One, halves,
// and what is held at each of the three steps.
func TestMix(t *testing.T) {
	for _, x := range []struct{ x, y, w, want int64 }{
		{0, 10 * one, one / 2, 5 * one},
		{10 * one, 0, one / 4, 15 * one / 2},
		{4 * one, 4 * one, one / 3, 4 * one},
		{7, 99, 0, 7},
		{7, 99, one, 99},
		{99, 7, one, 7},
		{-7, 99, 0, -7},
		{-7, 99, one, 99},
		{7, 99, one - 1, 99},
		{7, 99, 1, 7},
		{0, 10 * one, -one / 2, -5 * one},
		{10 * one, 0, -one, 20 * one},
		{0, 10 * one, 2 * one, 20 * one},
		{10 * one, 0, 3 * one, -20 * one},
		{-5, 5, top, 10<<31 - 5},
		{-5, 5, bottom, -10<<31 - 5},
		{0, 1, one / 2, 1},
		{1, 0, one / 2, 1},
		{0, -1, one / 2, 0},
		{0, 3, one / 2, 2},
		{3, 0, one / 2, 2},
		{0, 3, -one / 2, -1},
		{top, top, one / 2, top},
		{bottom, bottom, one / 2, bottom},
		{top, bottom, 0, top},
		{bottom, top, 0, bottom},
		{0, top, one, top},
		{0, bottom, one, bottom},
		// The difference is held ahead of the product.
		{bottom, top, one, -1},
		{top, bottom, one, -1},
		{bottom, top, one / 2, bottom / 2},
		{top, bottom, one / 2, top / 2},
		{-1, top, one, top - 1},
		{1, bottom, one, bottom + 1},
		// The product is held ahead of the sum.
		{bottom, 0, 4 * one, -1},
		{-one, top - one, 2 * one, top - one},
		{one, bottom + one, 2 * one, bottom + one},
		// The sum is held.
		{1, top, 2 * one, top},
		{-1, bottom, 2 * one, bottom},
		{top - 1, top, 2 * one, top},
		{top, top - 1, -one, top},
		{bottom, bottom + 1, -one, bottom},
		{top, bottom, -one, top},
		{bottom, top, -one, bottom},
		{0, one, top, top},
		{0, one, bottom, bottom},
		{0, -one, bottom, top},
	} {
		if got := Mix(x.x, x.y, x.w); got != x.want {
			t.Errorf("Mix(%d, %d, %d): %d, not %d", x.x, x.y, x.w, got, x.want)
		}
	}
}

// P3.2: all threes of the edges, against numbers without bound.
func TestMixAgainstBigNumbers(t *testing.T) {
	l := edges()
	for _, x := range l {
		for _, y := range l {
			for _, w := range l {
				if got, want := Mix(x, y, w), exactMix(x, y, w); got != want {
					t.Fatalf("Mix(%d, %d, %d): %d, not %d", x, y, w, got, want)
				}
			}
		}
	}
}

// P3.2: Half of numbers of either sign, by 0, 62, 63 and more, and by numbers
// below 0.
func TestHalf(t *testing.T) {
	for _, x := range []struct {
		x    int64
		n    int
		want int64
	}{
		{8, 0, 8}, {-8, 0, -8}, {0, 0, 0}, {top, 0, top}, {bottom, 0, bottom},
		{8, 2, 2}, {8, 4, 0}, {7, 1, 3}, {1, 1, 0}, {0, 5, 0},
		{-8, 2, -2}, {-8, 4, -1}, {-7, 1, -4}, {-1, 1, -1},
		{one, 32, 1}, {one - 1, 32, 0}, {-one, 32, -1}, {-one - 1, 32, -2},
		{top, 61, 3}, {top, 62, 1}, {top, 63, 0}, {top, 64, 0}, {top, 65, 0},
		{1 << 62, 62, 1}, {1<<62 - 1, 62, 0}, {1 << 62, 63, 0},
		{bottom, 61, -4}, {bottom, 62, -2}, {bottom, 63, -1}, {bottom, 64, -1}, {bottom, 65, -1},
		{-1 << 62, 62, -1}, {-1<<62 - 1, 62, -2}, {-1 << 62, 63, -1},
		{1, 62, 0}, {1, 63, 0}, {-1, 62, -1}, {-1, 63, -1}, {0, 62, 0}, {0, 63, 0},
		{5, 99, 0}, {-5, 99, -1}, {5, 256, 0}, {-5, 256, -1}, {5, one, 0}, {-5, one, -1},
		{top, math.MaxInt, 0}, {bottom, math.MaxInt, -1}, {0, math.MaxInt, 0},
		{8, -1, 8}, {-8, -1, -8}, {0, -1, 0}, {-7, -64, -7}, {7, -one, 7},
		{top, -1, top}, {bottom, -1, bottom},
		{top, math.MinInt, top}, {bottom, math.MinInt, bottom}, {1, math.MinInt, 1},
	} {
		if got := Half(x.x, x.n); got != x.want {
			t.Errorf("Half(%d, %d): %d, not %d", x.x, x.n, got, x.want)
		}
	}
}

// P3.2: Half of all the numbers by all that makes a difference, and beyond.
func TestHalfAgainstBigNumbers(t *testing.T) {
	for _, x := range numbers() {
		for n := -70; n <= 140; n++ {
			if got, want := Half(x, n), exactHalf(x, n); got != want {
				t.Errorf("Half(%d, %d): %d, not %d", x, n, got, want)
			}
		}
	}
}

// P3.3: fades written out: below, at and above 0, ordinary numbers, below, at
// and above 22.
func TestFade(t *testing.T) {
	for _, x := range []struct{ x, want int64 }{
		{bottom, one},
		{-22 * one, one},
		{-one, one},
		{-1, one},
		{0, one},
		{1, one - 1},
		{2, one - 2},
		{3, one - 3},
		{one / 4, 3345761437},
		{one / 2, 2606900458},
		{one - 1, 1580672841},
		{one, 1580672841},
		{one + 1, 1580672840},
		{2 * one, 581178665},
		{3 * one, 213875934},
		{5 * one, 28941045},
		{10 * one, 195064},
		{15 * one, 1314},
		{21 * one, 3},
		{22*one - 2, 1},
		{22*one - 1, 1},
		{22 * one, 0},
		{22*one + 1, 0},
		{23 * one, 0},
		{top - 1, 0},
		{top, 0},
		// A product that is a half goes up ahead of being taken off.
		{1674587515, 2910110271},
		{2046718074, 2668864744},
		{3163109751, 2056440984},
		// The square and the cube are rounded on the way.
		{52834894, 4242456224},
		{307310860, 3998423714},
		{2448128507, 2429803344},
	} {
		if got := Fade(x.x); got != x.want {
			t.Errorf("Fade(%d): %d, not %d", x.x, got, x.want)
		}
	}
}

// P3.3: where n steps on: the last number ahead of it, the first one of the
// new n, and the one behind it.
func TestFadeAtItsSteps(t *testing.T) {
	for _, x := range []struct{ x, ahead, at, behind int64 }{
		{2977044472, 2143334816, 2147483648, 2147483647},
		{5954088944, 1071667408, 1073741823, 1073741823},
		{8931133415, 535833703, 536870912, 536870911},
		{11908177887, 267916852, 268435456, 268435455},
		{14885222359, 133958426, 134217727, 134217727},
		{29770444717, 4186200, 4194304, 4194303},
		{47632711547, 65409, 65536, 65535},
		{71449067321, 255, 255, 255},
		{74426111792, 127, 128, 127},
		{89311334151, 3, 3, 3},
		{92288378622, 1, 2, 1},
	} {
		if got := [3]int64{Fade(x.x - 1), Fade(x.x), Fade(x.x + 1)}; got != [3]int64{x.ahead, x.at, x.behind} {
			t.Errorf("Fade about %d: %d, not %d, %d, %d", x.x, got, x.ahead, x.at, x.behind)
		}
	}
}

// P3.3: the document's sentence, over the whole way and about each step of n.
func TestFadeAgainstBigNumbers(t *testing.T) {
	check := func(x int64) {
		if got, want := Fade(x), exactFade(x); got != want {
			t.Errorf("Fade(%d): %d, not %d", x, got, want)
		}
	}
	for _, x := range numbers() {
		check(x)
	}
	for x := int64(-500); x <= 500; x++ {
		check(x)
		check(22*one + x)
	}
	for n := int64(1); n <= 31; n++ {
		for x := int64(-20); x <= 20; x++ {
			check(n*2977044472 + x)
		}
	}
	source := rand.New(rand.NewSource(3))
	for range 20000 {
		check(source.Int63n(one))
		check(source.Int63n(22 * one))
	}
}

// P3.3: it is about e to the power of -x.
func TestFadeIsAboutAPowerOfE(t *testing.T) {
	for x := int64(0); x < 22*one; x += one / 32 {
		want := math.Exp(-float64(x)/one) * one
		if got := float64(Fade(x)); math.Abs(got-want) > want/400+1 {
			t.Errorf("Fade(%d): %g, not about %g", x, got, want)
		}
	}
}

// P3.4: a whole number comes back, where it fits; where it does not, the
// nearest whole one does.
func TestThereAndBack(t *testing.T) {
	const least, greatest = -1 << 31, 1<<31 - 1
	for _, n := range numbers() {
		want := min(max(n, least), greatest)
		if got := Int(Of(n)); got != want {
			t.Errorf("Int(Of(%d)): %d, not %d", n, got, want)
		}
	}
	source := rand.New(rand.NewSource(4))
	for i := range int64(2000) {
		for _, n := range []int64{i, -i, least + i, greatest - i, least + source.Int63n(one)} {
			if got := Int(Of(n)); got != n {
				t.Errorf("Int(Of(%d)): %d", n, got)
			}
		}
	}
}

// P3.5: a fade is from 0 to One, whatever it is of.
func TestFadeIsBetween0AndOne(t *testing.T) {
	check := func(x int64) {
		if got := Fade(x); got < 0 || got > one {
			t.Errorf("Fade(%d): %d", x, got)
		}
	}
	for _, x := range numbers() {
		check(x)
	}
	for x := int64(-2000); x <= 2000; x++ {
		check(x)
		check(22*one + x)
		check(2977044472 + x)
	}
	source := rand.New(rand.NewSource(5))
	for range 200000 {
		check(int64(source.Uint64()) >> source.Intn(64))
		check(source.Int63n(22 * one))
	}
}
