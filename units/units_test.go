package units

import (
	"math"
	"math/big"
	"math/rand"
	"testing"

	"flywheel/api"
)

const (
	second = api.Second
	latest = api.MaxTime
	top    = math.MaxInt64
	bottom = math.MinInt64
)

// edges are numbers at and beside the bounds, at and beside 0, about a second,
// a byte's ticks, a stamp's turn and the last time.
func edges() []int64 {
	return []int64{
		bottom, bottom + 1, bottom + 2, bottom / 2, bottom/8000000 - 1, bottom / 8000000,
		-latest - 1, -latest, -latest + 1, -65536 * second, -32768 * second, -8000001, -8000000, -7999999,
		-second - 1, -second, -second + 1, -65536, -17, -16, -15, -8, -7, -3, -2, -1,
		0, 1, 2, 3, 7, 8, 15, 16, 17, 65535, 65536, 65537, second - 1, second, second + 1,
		7999999, 8000000, 8000001, 32768*second - 1, 32768 * second, 65536*second - 1, 65536 * second, 65536*second + 1,
		api.MaxRate - 1, api.MaxRate, api.MaxRate + 1, latest - 1, latest, latest + 1,
		top / 8000000, top/8000000 + 1, top / 2, top - 2, top - 1, top,
	}
}

// numbers are the edges and some numbers of all lengths, always the same ones.
func numbers() []int64 {
	source := rand.New(rand.NewSource(4))
	l := edges()
	for range 150 {
		l = append(l, int64(source.Uint64())>>source.Intn(64))
	}
	return l
}

// product is a times b, without bound.
func product(a, b int64) *big.Int { return new(big.Int).Mul(big.NewInt(a), big.NewInt(b)) }

// below is n divided by by, rounded down.
func below(n *big.Int, by int64) *big.Int {
	n, d := new(big.Int).Set(n), big.NewInt(by)
	if by < 0 {
		n.Neg(n)
		d.Neg(d)
	}
	return n.Div(n, d)
}

// above is n divided by by, rounded up.
func above(n *big.Int, by int64) *big.Int {
	q := below(new(big.Int).Neg(n), by)
	return q.Neg(q)
}

// held is what a number without bound is, held between the bounds.
func held(n *big.Int) int64 {
	if n.IsInt64() {
		return n.Int64()
	}
	if n.Sign() < 0 {
		return bottom
	}
	return top
}

func exactBytes(rate, ticks int64) int64 { return held(below(product(rate, ticks), 8000000)) }

func exactTicks(rate, bytes int64) int64 {
	if rate == 0 {
		return 0
	}
	return held(above(product(bytes, 8000000), rate))
}

func exactRate(bytes, ticks int64) int64 {
	if ticks == 0 {
		return 0
	}
	return held(below(product(bytes, 8000000), ticks))
}

func exactStamp(ticks int64) uint32 {
	return uint32(held(below(product(ticks, 65536), second)))
}

// exactFromStamp walks over the turns about near, from the greatest down, and
// takes another one only if it is nearer.
func exactFromStamp(stamp uint32, near int64) int64 {
	near = min(max(near, -latest), latest)
	about := held(below(product(near, 65536), second))
	turn := int64(1) << 32
	best, least := int64(0), int64(top)
	for k := about/turn + 3; k >= about/turn-3; k-- {
		n := k*turn + int64(stamp)
		if away := max(n-about, about-n); away < least {
			best, least = n, away
		}
	}
	return held(above(product(best, second), 65536))
}

type pairCase struct{ a, b, want int64 }

func checkPairs(t *testing.T, name string, f func(a, b int64) int64, l []pairCase) {
	t.Helper()
	for _, x := range l {
		if got := f(x.a, x.b); got != x.want {
			t.Errorf("%s(%d, %d): %d, not %d", name, x.a, x.b, got, x.want)
		}
	}
}

func checkExact(t *testing.T, name string, f, exact func(a, b int64) int64) {
	t.Helper()
	l := numbers()
	for _, a := range l {
		for _, b := range l {
			if got, want := f(a, b), exact(a, b); got != want {
				t.Fatalf("%s(%d, %d): %d, not %d", name, a, b, got, want)
			}
		}
	}
}

// P4.1: how many bytes go, rounded down also below 0, held at the bounds.
func TestBytes(t *testing.T) {
	checkPairs(t, "Bytes", Bytes, []pairCase{
		{8000000, 1000, 1000},
		{8000000, 1, 1},
		{1000000, second, 125000},
		{1, 8000000, 1},
		{1, 7999999, 0},
		{1, 8000001, 1},
		{3, 1, 0},
		{0, 5, 0},
		{5, 0, 0},
		{0, 0, 0},
		{-8000000, 5, -5},
		{8000000, -5, -5},
		{-8000000, -5, 5},
		{-1, 1, -1},
		{1, -1, -1},
		{-1, -1, 0},
		{-1, 8000000, -1},
		{-1, 8000001, -2},
		{api.MaxRate, second, 1 << 31},
		{top, 8000000, top},
		{top, 8000001, top},
		{top, 1, 1152921504606},
		{bottom, 1, -1152921504607},
		{bottom, 8000000, bottom},
		{bottom, 8000001, bottom},
		{top, top, top},
		{bottom, bottom, top},
		{top, bottom, bottom},
		{bottom, top, bottom},
		{0, top, 0},
		{bottom, 0, 0},
	})
	checkExact(t, "Bytes", Bytes, exactBytes)
}

// P4.1: how long bytes take, rounded up also below 0, held at the bounds; 0 at
// the wrong rate 0.
func TestTicks(t *testing.T) {
	checkPairs(t, "Ticks", Ticks, []pairCase{
		{8000000, 1500, 1500},
		{1000000, 125000, second},
		{1, 1, 8000000},
		{3, 1, 2666667},
		{3, 3, 8000000},
		{8000001, 1, 1},
		{16000000, 1, 1},
		{top, 1, 1},
		{5, 0, 0},
		{0, 5, 0},
		{0, -5, 0},
		{0, 0, 0},
		{0, top, 0},
		{0, bottom, 0},
		{-8000000, 5, -5},
		{8000000, -5, -5},
		{-8000000, -5, 5},
		{-3, 1, -2666666},
		{3, -1, -2666666},
		{-3, -1, 2666667},
		{top, -1, 0},
		{bottom, 1, 0},
		{bottom, -1, 1},
		{1, top, top},
		{1, bottom, bottom},
		{-1, top, bottom},
		{-1, bottom, top},
		{1, 1152921504606, 9223372036848000000},
		{1, 1152921504607, top},
		{top, top, 8000000},
		{bottom, bottom, 8000000},
		{bottom, top, -7999999},
		{top, bottom, -8000000},
	})
	checkExact(t, "Ticks", Ticks, exactTicks)
}

// P4.1: at which rate bytes went, rounded down also below 0, held at the
// bounds; 0 in the wrong time 0.
func TestRate(t *testing.T) {
	checkPairs(t, "Rate", Rate, []pairCase{
		{1000, 1000, 8000000},
		{125000, second, 1000000},
		{1, 3, 2666666},
		{1, 8000000, 1},
		{1, 8000001, 0},
		{0, 7, 0},
		{5, 0, 0},
		{-5, 0, 0},
		{0, 0, 0},
		{top, 0, 0},
		{bottom, 0, 0},
		{-1, 3, -2666667},
		{1, -3, -2666667},
		{-1, -3, 2666666},
		{-1, 8000001, -1},
		{1, bottom, -1},
		{1, top, 0},
		{top, 1, top},
		{top, -1, bottom},
		{bottom, 1, bottom},
		{bottom, -1, top},
		{1152921504606, 1, 9223372036848000000},
		{1152921504607, 1, top},
		{top, top, 8000000},
		{bottom, bottom, 8000000},
		{bottom, top, -8000001},
		{top, bottom, -8000000},
	})
	checkExact(t, "Rate", Rate, exactRate)
}

// P4.2: times below 0, where the lower 32 bits go round, and the bounds.
func TestStamp(t *testing.T) {
	for _, x := range []struct {
		ticks int64
		want  uint32
	}{
		{0, 0},
		{second, 65536},
		{second / 2, 32768},
		{second - 1, 65535},
		{15, 0},
		{16, 1},
		{30, 1},
		{31, 2},
		{-1, 1<<32 - 1},
		{-15, 1<<32 - 1},
		{-16, 1<<32 - 2},
		{-second, 1<<32 - 65536},
		{32768 * second, 1 << 31},
		{32768*second - 1, 1<<31 - 1},
		{65535*second + 999999, 1<<32 - 1},
		{65536*second - 16, 1<<32 - 2},
		{65536 * second, 0},
		{65536*second + 16, 1},
		{131072*second + second, 65536},
		{-65536 * second, 0},
		{-65536*second - 1, 1<<32 - 1},
		{-65536*second + 16, 1},
		{latest, 3733116854},
		{-latest, 561850441},
		{top, 1526122139},
		{bottom, 2768845156},
	} {
		if got := Stamp(x.ticks); got != x.want {
			t.Errorf("Stamp(%d): %d, not %d", x.ticks, got, x.want)
		}
	}
	for _, ticks := range numbers() {
		if got, want := Stamp(ticks), exactStamp(ticks); got != want {
			t.Errorf("Stamp(%d): %d, not %d", ticks, got, want)
		}
	}
}

type stampCase struct {
	stamp uint32
	near  int64
	want  int64
}

func checkFromStamp(t *testing.T, l []stampCase) {
	t.Helper()
	for _, x := range l {
		if got := FromStamp(x.stamp, x.near); got != x.want {
			t.Errorf("FromStamp(%d, %d): %d, not %d", x.stamp, x.near, got, x.want)
		}
	}
}

// P4.2: the turn that is nearest, on both sides of near and beside a turn's end.
func TestFromStamp(t *testing.T) {
	checkFromStamp(t, []stampCase{
		{0, 0, 0},
		{65536, 0, second},
		{1, 0, 16},
		{2, 0, 31},
		{65535, 0, 999985},
		{1<<32 - 1, 0, -15},
		{1<<32 - 2, 0, -30},
		{1<<32 - 65536, 0, -second},
		{1<<32 - 1, 65536 * second, 65536*second - 15},
		{1<<32 - 1, 65536*second - 1, 65536*second - 15},
		{0, 65536 * second, 65536 * second},
		{0, 65536*second - 1, 65536 * second},
		{65536, 65536*second - 5, 65537 * second},
		{65536, 3 * 65536 * second, 196609 * second},
		{0, -65536 * second, -65536 * second},
		{1, -65536 * second, -65536*second + 16},
		{1<<32 - 1, -65536 * second, -65536*second - 15},
	})
}

// P4.2: a stamp half the way round from near is told as the later one, and one
// on either side of it as the nearer one. Just ahead of 0 the count is -1.
func TestFromStampHalf(t *testing.T) {
	checkFromStamp(t, []stampCase{
		{1<<31 - 1, 0, 32768*second - 15},
		{1 << 31, 0, 32768 * second},
		{1<<31 + 1, 0, -32768*second + 16},
		{1<<31 - 2, -1, 32768*second - 30},
		{1<<31 - 1, -1, 32768*second - 15},
		{1 << 31, -1, -32768 * second},
		{1 << 31, 16, 32768 * second},
		{1<<31 + 1, 16, 32768*second + 16},
		{1<<31 + 2, 16, -32768*second + 31},
		{0, 32768*second - 16, 0},
		{0, 32768*second - 1, 0},
		{0, 32768 * second, 65536 * second},
		{0, 32768*second + 16, 65536 * second},
		{0, -32768*second + 16, 0},
		{0, -32768 * second, 0},
		{0, -32768*second - 1, -65536 * second},
		{1<<31 - 1, 65536 * second, 98304*second - 15},
		{1 << 31, 65536 * second, 98304 * second},
		{1<<31 + 1, 65536 * second, 32768*second + 16},
		{1 << 31, -65536 * second, -32768 * second},
		{1<<31 + 1, -65536 * second, -98304*second + 16},
	})
}

// P4.2: near is held, so that beyond the last and the first time nothing changes
// and inside of them all does. Those two times have the stamps last and first.
func TestFromStampHeld(t *testing.T) {
	const last, first = 3733116854, 561850441
	const half = 1 << 31
	checkFromStamp(t, []stampCase{
		{last, latest, 1125899906842621},
		{last, latest + 1, 1125899906842621},
		{last, latest - 1, 1125899906842621},
		{last, top, 1125899906842621},
		{last - half, latest, 1125932674842621},
		{last - half, latest + 16, 1125932674842621},
		{last - half, latest + 1<<40, 1125932674842621},
		{last - half, top, 1125932674842621},
		{last - half, latest - 16, 1125867138842621},
		{first, -latest, -1125899906842636},
		{first, -latest - 1, -1125899906842636},
		{first, -latest + 1, -1125899906842636},
		{first, bottom, -1125899906842636},
		{first + half + 1, -latest, -1125932674842620},
		{first + half + 1, -latest - 16, -1125932674842620},
		{first + half + 1, bottom, -1125932674842620},
		{first + half + 1, -latest + 16, -1125867138842620},
	})
}

// P4.2: all of it, held against a walk over the turns.
func TestFromStampExact(t *testing.T) {
	for _, near := range numbers() {
		at := exactStamp(min(max(near, -latest), latest))
		stamps := []uint32{0, 1, 2, 1<<31 - 1, 1 << 31, 1<<31 + 1, 1<<32 - 2, 1<<32 - 1}
		for _, d := range []uint32{0, 1, 2, 65536, 1<<31 - 1, 1 << 31, 1<<31 + 1, 1<<32 - 1} {
			stamps = append(stamps, at+d)
		}
		for _, stamp := range stamps {
			if got, want := FromStamp(stamp, near), exactFromStamp(stamp, near); got != want {
				t.Fatalf("FromStamp(%d, %d): %d, not %d", stamp, near, got, want)
			}
		}
	}
}

// P4.2: a time's stamp, told near to it, is that time but for what rounding
// takes, and has that stamp again.
func TestStampBack(t *testing.T) {
	for _, ticks := range numbers() {
		if ticks < -latest || ticks > latest {
			continue
		}
		stamp := Stamp(ticks)
		back := FromStamp(stamp, ticks)
		if back > ticks || ticks-back > 15 || Stamp(back) != stamp {
			t.Errorf("FromStamp(Stamp(%d)): %d", ticks, back)
		}
	}
}

// P4.3: bytes that have had their time are through.
func TestBytesOfTicks(t *testing.T) {
	tried := 0
	for _, rate := range numbers() {
		for _, bytes := range numbers() {
			if rate <= 0 || bytes <= 0 || !above(product(bytes, 8000000), rate).IsInt64() {
				continue
			}
			ticks := Ticks(rate, bytes)
			if !below(product(rate, ticks), 8000000).IsInt64() {
				continue
			}
			tried++
			if got := Bytes(rate, ticks); got < bytes {
				t.Errorf("Bytes(%d, Ticks(%d, %d)): %d", rate, rate, bytes, got)
			}
		}
	}
	if tried < 1000 {
		t.Error("too few pairs are tried:", tried)
	}
}

// P4.3: at each small rate, and one tick less is too short.
func TestTicksAreTheLeast(t *testing.T) {
	for rate := int64(1); rate < 3000; rate += 7 {
		for bytes := int64(1); bytes < 40; bytes++ {
			ticks := Ticks(rate, bytes)
			if Bytes(rate, ticks) < bytes || Bytes(rate, ticks-1) >= bytes {
				t.Errorf("Ticks(%d, %d): %d", rate, bytes, ticks)
			}
		}
	}
}
