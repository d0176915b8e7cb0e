package wrap

import (
	"math"
	"math/big"
	"math/rand"
	"testing"
)

const (
	top    = math.MaxInt64
	bottom = math.MinInt64
	end    = 1 << 60 // where Near's last is held
)

// edges are numbers at and beside the bounds, at and beside 0, and about the
// places where numbers of 1, 2, 8, 16, 31 and 32 bits go round and are half round.
func edges() []int64 {
	l := []int64{
		bottom, bottom + 1, bottom + 2, bottom / 2, -end - 1, -end, -end + 1, -3, -2, -1,
		0, 1, 2, 3, end - 1, end, end + 1, top / 2, top - 2, top - 1, top,
	}
	for _, bits := range []int{7, 8, 15, 16, 30, 31, 32, 33, 40} {
		n := int64(1) << bits
		l = append(l, n-1, n, n+1, -n-1, -n, -n+1)
	}
	return l
}

// numbers are the edges and some numbers of all lengths, always the same ones.
func numbers() []int64 {
	source := rand.New(rand.NewSource(5))
	l := edges()
	for range 60 {
		l = append(l, int64(source.Uint64())>>source.Intn(64))
	}
	return l
}

func round(bits int) *big.Int { return new(big.Int).Lsh(big.NewInt(1), uint(bits)) }

// exactCut is what is left of n, without bound, when whole turns are taken off.
func exactCut(n *big.Int, bits int) int {
	return int(new(big.Int).Mod(n, round(bits)).Int64())
}

// exactNear walks over the turns about last, from the greatest down, and takes
// another number only if it is nearer.
func exactNear(last int64, v, bits int) int64 {
	if bits < 1 || bits > 32 {
		return last
	}
	last = min(max(last, -end), end)
	turn := int64(1) << bits
	best, least := int64(0), int64(top)
	for k := last/turn + 3; k >= last/turn-3; k-- {
		n := k*turn + int64(exactCut(big.NewInt(int64(v)), bits))
		if away := max(n-last, last-n); away < least {
			best, least = n, away
		}
	}
	return best
}

func exactAfter(a, b, bits int) bool {
	if bits < 1 || bits > 32 {
		return false
	}
	turn := 1 << bits
	if a < 0 || a >= turn || b < 0 || b >= turn {
		return false
	}
	away := (a + turn - b) % turn
	return away >= 1 && away <= turn/2-1
}

type cutCase struct {
	n    int64
	bits int
	want int
}

func checkCut(t *testing.T, l []cutCase) {
	t.Helper()
	for _, x := range l {
		if got := Cut(x.n, x.bits); got != x.want {
			t.Errorf("Cut(%d, %d): %d, not %d", x.n, x.bits, got, x.want)
		}
	}
}

// P5.1: the lower bits, also of numbers below 0, and at the bounds.
func TestCut(t *testing.T) {
	checkCut(t, []cutCase{
		{0, 16, 0},
		{5, 16, 5},
		{65535, 16, 65535},
		{65536, 16, 0},
		{65537, 16, 1},
		{1 << 40, 16, 0},
		{-1, 16, 65535},
		{-65535, 16, 1},
		{-65536, 16, 0},
		{-65537, 16, 65535},
		{0, 1, 0},
		{1, 1, 1},
		{2, 1, 0},
		{-1, 1, 1},
		{-2, 1, 0},
		{5, 2, 1},
		{-5, 2, 3},
		{255, 8, 255},
		{256, 8, 0},
		{1<<31 - 1, 31, 1<<31 - 1},
		{1 << 31, 31, 0},
		{1 << 31, 32, 1 << 31},
		{1<<32 - 1, 32, 1<<32 - 1},
		{1 << 32, 32, 0},
		{1<<32 + 7, 32, 7},
		{-1, 32, 1<<32 - 1},
		{-1 << 32, 32, 0},
		{-1<<32 - 1, 32, 1<<32 - 1},
		{top, 1, 1},
		{top, 16, 65535},
		{top, 32, 1<<32 - 1},
		{bottom, 1, 0},
		{bottom, 16, 0},
		{bottom, 32, 0},
		{bottom + 1, 32, 1},
	})
}

// P5.1: bits that there are not.
func TestCutWrongBits(t *testing.T) {
	for _, bits := range []int{math.MinInt, math.MinInt + 1, -64, -16, -1, 0, 33, 34, 63, 64, 65, math.MaxInt - 1, math.MaxInt} {
		for _, n := range numbers() {
			checkCut(t, []cutCase{{n, bits, 0}})
		}
	}
}

// P5.1: all of it, held against what is left of numbers without bound.
func TestCutExact(t *testing.T) {
	for bits := 1; bits <= 32; bits++ {
		for _, n := range numbers() {
			checkCut(t, []cutCase{{n, bits, exactCut(big.NewInt(n), bits)}})
		}
	}
}

type nearCase struct {
	last    int64
	v, bits int
	want    int64
}

func checkNear(t *testing.T, l []nearCase) {
	t.Helper()
	for _, x := range l {
		if got := Near(x.last, x.v, x.bits); got != x.want {
			t.Errorf("Near(%d, %d, %d): %d, not %d", x.last, x.v, x.bits, got, x.want)
		}
	}
}

// P5.1: the nearest one on both sides of last, also about 0 and below it.
func TestNear(t *testing.T) {
	checkNear(t, []nearCase{
		{65530, 3, 16, 65539},
		{65539, 65530, 16, 65530},
		{3, 65530, 16, -6},
		{-6, 3, 16, 3},
		{10, 10, 16, 10},
		{0, 0, 16, 0},
		{0, 1, 16, 1},
		{0, 65535, 16, -1},
		{-65536, 65535, 16, -65537},
		{-65536, 1, 16, -65535},
		{-100000, 31072, 16, -100000},
		{1 << 40, 0, 32, 1 << 40},
		{1 << 40, 7, 32, 1<<40 + 7},
		{1 << 40, 1<<32 - 7, 32, 1<<40 - 7},
		{-1 << 40, 1<<32 - 7, 32, -1<<40 - 7},
		{77, 3, 2, 79},
		{77, 0, 2, 76},
	})
}

// P5.1: of two that are as near, the greater one, and those beside it as near as
// they are.
func TestNearHalf(t *testing.T) {
	checkNear(t, []nearCase{
		{0, 32767, 16, 32767},
		{0, 32768, 16, 32768},
		{0, 32769, 16, -32767},
		{1, 32768, 16, 32768},
		{1, 32769, 16, 32769},
		{1, 32770, 16, -32766},
		{-1, 32766, 16, 32766},
		{-1, 32767, 16, 32767},
		{-1, 32768, 16, -32768},
		{32767, 0, 16, 0},
		{32768, 0, 16, 65536},
		{32769, 0, 16, 65536},
		{-32767, 0, 16, 0},
		{-32768, 0, 16, 0},
		{-32769, 0, 16, -65536},
		{5, 0, 1, 6},
		{5, 1, 1, 5},
		{4, 1, 1, 5},
		{-5, 0, 1, -4},
		{-4, 1, 1, -3},
		{8, 1, 2, 9},
		{8, 2, 2, 10},
		{8, 3, 2, 7},
		{1 << 40, 1<<31 - 1, 32, 1<<40 + 1<<31 - 1},
		{1 << 40, 1 << 31, 32, 1<<40 + 1<<31},
		{1 << 40, 1<<31 + 1, 32, 1<<40 - 1<<31 + 1},
		{1<<40 + 1<<31, 0, 32, 1<<40 + 1<<32},
		{1<<40 + 1<<31 - 1, 0, 32, 1 << 40},
		{-1<<40 - 1<<31, 0, 32, -1 << 40},
		{-1<<40 - 1<<31 - 1, 0, 32, -1<<40 - 1<<32},
	})
}

// P5.1: of a v below 0, or beyond the bits, the lower bits count.
func TestNearCutsV(t *testing.T) {
	checkNear(t, []nearCase{
		{5, -1, 16, -1},
		{5, -65536, 16, 0},
		{5, -65537, 16, -1},
		{5, 65536, 16, 0},
		{5, 65543, 16, 7},
		{100000, 100000, 16, 100000},
		{100000, 1 << 40, 16, 131072},
		{5, 1 << 32, 32, 0},
		{5, 1<<32 + 7, 32, 7},
		{5, -7, 32, -7},
		{5, math.MaxInt, 16, -1},
		{5, math.MaxInt, 32, -1},
		{5, math.MaxInt, 1, 5},
		{5, math.MinInt, 16, 0},
		{5, math.MinInt, 32, 0},
		{5, math.MinInt + 9, 32, 9},
		{4, math.MinInt, 1, 4},
		{top, math.MinInt, 32, end},
		{bottom, math.MaxInt, 32, -end - 1},
	})
}

// P5.1: beyond the ends last is held, at and inside of them it is not.
func TestNearHeld(t *testing.T) {
	checkNear(t, []nearCase{
		{end - 1, 126, 8, end + 126},
		{end - 1, 127, 8, end + 127},
		{end - 1, 128, 8, end - 128},
		{end, 127, 8, end + 127},
		{end, 128, 8, end + 128},
		{end, 129, 8, end - 127},
		{end + 1, 128, 8, end + 128},
		{end + 1, 129, 8, end - 127},
		{2 * end, 5, 8, end + 5},
		{2*end + 77, 128, 8, end + 128},
		{2*end + 77, 129, 8, end - 127},
		{top, 0, 1, end},
		{top, 1, 1, end + 1},
		{top, 1 << 31, 32, end + 1<<31},
		{top, 1<<31 + 1, 32, end - 1<<31 + 1},
		{-end + 1, 128, 8, -end + 128},
		{-end + 1, 129, 8, -end + 129},
		{-end, 128, 8, -end + 128},
		{-end, 129, 8, -end - 127},
		{-end - 1, 128, 8, -end + 128},
		{-end - 1, 127, 8, -end + 127},
		{-2 * end, 5, 8, -end + 5},
		{-2*end - 77, 128, 8, -end + 128},
		{bottom, 0, 1, -end},
		{bottom, 1, 1, -end + 1},
		{bottom, 1 << 31, 32, -end + 1<<31},
		{bottom, 1<<31 + 1, 32, -end - 1<<31 + 1},
	})
}

// P5.1: with bits that there are not, last is told as it is, not held.
func TestNearWrongBits(t *testing.T) {
	for _, bits := range []int{math.MinInt, math.MinInt + 1, -64, -16, -1, 0, 33, 34, 63, 64, 65, math.MaxInt - 1, math.MaxInt} {
		for _, last := range numbers() {
			for _, v := range []int{math.MinInt, -1, 0, 3, 65536, math.MaxInt} {
				checkNear(t, []nearCase{{last, v, bits, last}})
			}
		}
	}
}

// P5.1: all of it, held against a walk over the turns.
func TestNearExact(t *testing.T) {
	for _, bits := range []int{1, 2, 3, 8, 15, 16, 17, 31, 32} {
		half := 1 << (bits - 1)
		for _, last := range numbers() {
			vs := []int{math.MinInt, math.MinInt + 1, -1, 0, 1, half - 1, half, half + 1, 2*half - 1, 2 * half, 2*half + 1, math.MaxInt}
			at := exactCut(big.NewInt(min(max(last, -end), end)), bits)
			for _, d := range []int{0, 1, -1, half - 1, half, half + 1, -half + 1, -half, -half - 1} {
				vs = append(vs, at+d)
			}
			for _, v := range vs {
				checkNear(t, []nearCase{{last, v, bits, exactNear(last, v, bits)}})
			}
		}
	}
}

type afterCase struct {
	a, b, bits int
	want       bool
}

func checkAfter(t *testing.T, l []afterCase) {
	t.Helper()
	for _, x := range l {
		if got := After(x.a, x.b, x.bits); got != x.want {
			t.Errorf("After(%d, %d, %d): %t, not %t", x.a, x.b, x.bits, got, x.want)
		}
	}
}

// P5.2: one more, one less, equal, half the way round and beside it, also over
// the place where numbers go round.
func TestAfter(t *testing.T) {
	checkAfter(t, []afterCase{
		{3, 65530, 16, true},
		{65530, 3, 16, false},
		{5, 5, 16, false},
		{0, 0, 16, false},
		{65535, 65535, 16, false},
		{6, 5, 16, true},
		{5, 6, 16, false},
		{0, 65535, 16, true},
		{65535, 0, 16, false},
		{32767, 0, 16, true},
		{32768, 0, 16, false},
		{32769, 0, 16, false},
		{0, 32767, 16, false},
		{0, 32768, 16, false},
		{0, 32769, 16, true},
		{99, 32867, 16, false},
		{98, 32867, 16, true},
		{97, 32865, 16, false},
		{98, 32866, 16, false},
		{1<<31 - 1, 0, 32, true},
		{1 << 31, 0, 32, false},
		{1<<31 + 1, 0, 32, false},
		{0, 1<<31 - 1, 32, false},
		{0, 1 << 31, 32, false},
		{0, 1<<31 + 1, 32, true},
		{0, 1<<32 - 1, 32, true},
		{1<<32 - 1, 0, 32, false},
		{1<<32 - 1, 1<<32 - 2, 32, true},
		{0, 0, 1, false},
		{0, 1, 1, false},
		{1, 0, 1, false},
		{1, 1, 1, false},
		{1, 0, 2, true},
		{2, 0, 2, false},
		{3, 0, 2, false},
		{0, 3, 2, true},
	})
}

// P5.2: numbers that the bits do not hold, and bits that there are not.
func TestAfterWrong(t *testing.T) {
	checkAfter(t, []afterCase{
		{65536, 65535, 16, false},
		{65537, 0, 16, false},
		{65536, 0, 16, false},
		{65540, 65530, 16, false},
		{1<<17 + 1, 0, 16, false},
		{-1, 65530, 16, false},
		{-65535, 0, 16, false},
		{math.MinInt, 65535, 16, false},
		{math.MinInt + 1, 0, 16, false},
		{math.MaxInt, 65530, 16, false},
		{1, 65536, 16, false},
		{5, 65537, 16, false},
		{0, 65536*3 - 1, 16, false},
		{1, -1, 16, false},
		{0, -1, 16, false},
		{0, math.MaxInt, 16, false},
		{1, math.MinInt, 16, false},
		{math.MaxInt, math.MaxInt - 1, 16, false},
		{math.MinInt + 1, math.MinInt, 16, false},
		{math.MinInt, math.MaxInt, 16, false},
		{1 << 32, 1<<32 - 1, 32, false},
		{1<<32 + 1, 0, 32, false},
		{1, 1 << 32, 32, false},
		{-1, -2, 32, false},
		{2, 1, 1, false},
		{4, 3, 2, false},
		{256, 255, 8, false},
		{1, 256, 8, false},
	})
	for _, bits := range []int{math.MinInt, math.MinInt + 1, -64, -16, -1, 0, 33, 34, 63, 64, 65, math.MaxInt - 1, math.MaxInt} {
		for _, a := range edges() {
			for _, b := range edges() {
				checkAfter(t, []afterCase{{int(a), int(b), bits, false}})
			}
		}
	}
}

// P5.2: all of it, held against the way from b to a counted with a turn more.
func TestAfterExact(t *testing.T) {
	for bits := -1; bits <= 34; bits++ {
		for _, a := range numbers() {
			for _, b := range numbers() {
				checkAfter(t, []afterCase{{int(a), int(b), bits, exactAfter(int(a), int(b), bits)}})
			}
		}
	}
	for bits := 1; bits <= 5; bits++ {
		for a := -2; a <= 1<<bits+1; a++ {
			for b := -2; b <= 1<<bits+1; b++ {
				checkAfter(t, []afterCase{{a, b, bits, exactAfter(a, b, bits)}})
			}
		}
	}
}

// P5.3: what was cut is found again, if it is less than half the way round off.
func TestNearBack(t *testing.T) {
	for bits := 1; bits <= 32; bits++ {
		half := int64(1) << (bits - 1)
		for _, n := range numbers() {
			n = min(max(n, -end), end)
			for _, d := range []int64{0, 1, 2, half / 2, half - 2, half - 1} {
				for _, m := range []int64{n + d, n - d} {
					if d < 0 || d >= half {
						continue
					}
					checkNear(t, []nearCase{{n, Cut(m, bits), bits, m}})
				}
			}
		}
	}
}

// P5.3: just at half the way round it is found again only if it is the greater
// one, and beyond that never.
func TestNearNotBack(t *testing.T) {
	for bits := 1; bits <= 32; bits++ {
		half := int64(1) << (bits - 1)
		for _, n := range []int64{-end, -65536, -1, 0, 1, 65535, end} {
			checkNear(t, []nearCase{
				{n, Cut(n+half, bits), bits, n + half},
				{n, Cut(n-half, bits), bits, n + half},
				{n, Cut(n+half+1, bits), bits, n - half + 1},
				{n, Cut(n+2*half, bits), bits, n},
			})
		}
	}
}

// P5.2 and P5.1 together: the one that comes behind is the one that is found
// above the other one.
func TestAfterIsAbove(t *testing.T) {
	for bits := 2; bits <= 32; bits++ {
		half := 1 << (bits - 1)
		for _, b := range []int{0, 1, half - 1, half, half + 1, 2*half - 1} {
			b %= 2 * half
			for _, d := range []int{0, 1, half - 1, half + 1, 2*half - 1} {
				a := (b + d) % (2 * half)
				if got, want := After(a, b, bits), Near(int64(b), a, bits) > int64(b); got != want {
					t.Errorf("After(%d, %d, %d): %t, not %t", a, b, bits, got, want)
				}
			}
		}
	}
}
