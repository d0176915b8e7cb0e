package rate

import (
	"math"
	"math/rand"
	"slices"
	"testing"

	"flywheel/api"
	"flywheel/units"
)

const (
	top    = math.MaxInt64
	bottom = math.MinInt64
	latest = 1 << 50
	widest = 1500 // bytes of a packet
	most   = 4096 // samples that count, and packets lost at once
	second = 1000000
)

func opened(t *testing.T, window int64) *Meter {
	t.Helper()
	m, e := New(window)
	if m == nil || e != api.OK {
		t.Fatalf("New(%d): %v, %v", window, m, e)
	}
	return m
}

func check(t *testing.T, m *Meter, bytes, rate int64, full bool) {
	t.Helper()
	if m.Bytes() != bytes || m.Rate() != rate || m.Full() != full {
		t.Fatalf("Bytes %d, Rate %d, Full %v, not %d, %d, %v", m.Bytes(), m.Rate(), m.Full(), bytes, rate, full)
	}
}

func checkBytes(t *testing.T, m *Meter, bytes int64) {
	t.Helper()
	if m.Bytes() != bytes {
		t.Fatalf("Bytes %d, not %d", m.Bytes(), bytes)
	}
}

func checkLoss(t *testing.T, m *Meter, loss int) {
	t.Helper()
	if m.Loss() != loss {
		t.Fatalf("Loss %d, not %d", m.Loss(), loss)
	}
}

// P14.1: a window is from 1 to MaxTime, and the meter is of nothing.
func TestNew(t *testing.T) {
	for _, w := range []int64{1, 2, 999, 1000, second, latest - 1, latest} {
		m := opened(t, w)
		check(t, m, 0, 0, false)
		checkLoss(t, m, 0)
	}
	for _, w := range []int64{0, -1, latest + 1, -latest, top, bottom} {
		if m, e := New(w); m != nil || e != api.ErrArg {
			t.Errorf("New(%d): %v, %v", w, m, e)
		}
	}
}

// P14.1: nothing, unless the size is from 0 to MaxSize and came from -MaxTime to
// MaxTime.
func TestSamplesThatAreNone(t *testing.T) {
	none := []struct {
		came int64
		size int
	}{
		{0, -1}, {0, widest + 1}, {0, math.MinInt}, {0, math.MaxInt},
		{latest + 1, 1}, {-latest - 1, 1}, {top, 1}, {bottom, 1}, {top, -1},
	}
	for _, s := range none {
		m := opened(t, 100000)
		m.Got(s.came, s.size)
		check(t, m, 0, 0, false)
		checkLoss(t, m, 0)
		m.Got(0, 1000)
		m.Lost(1)
		m.Got(s.came, s.size)
		check(t, m, 1000, 8000000, false)
		checkLoss(t, m, 128)
	}
	for _, s := range []struct {
		came int64
		size int
	}{{0, 0}, {0, 1}, {0, widest}, {latest, 1}, {-latest, 1}} {
		m := opened(t, 100000)
		m.Lost(1)
		m.Got(s.came, s.size)
		check(t, m, int64(s.size), int64(s.size)*8000, false)
		checkLoss(t, m, 128)
	}
}

// P14.1, P14.2: what came at the end less the window, or ahead of it, counts no
// longer.
func TestWindow(t *testing.T) {
	m := opened(t, 100000)
	m.Got(0, 1000)
	m.Got(10000, 1000)
	check(t, m, 2000, 1600000, false) // the chapter's example
	m.Got(99999, 100)
	check(t, m, 2100, 2100*8000000/99999, false)
	m.Got(100000, 10)
	check(t, m, 1110, 88800, true)
	m.Got(109999, 1)
	check(t, m, 1111, 88880, true)
	m.Got(110000, 0)
	check(t, m, 111, 8880, true)
	m.Got(latest, 7)
	check(t, m, 7, 560, true)
}

// P14.1: a sample that comes late is within the window, or never counts.
func TestSamplesThatComeLate(t *testing.T) {
	m := opened(t, 1000)
	m.Got(5000, 1)
	m.Got(4001, 10)
	check(t, m, 11, 88000, false)
	m.Got(4000, 100)
	check(t, m, 11, 88000, true) // it makes the time a whole window, though it never counted
	m.Got(5001, 0)
	checkBytes(t, m, 1)
	m.Got(4500, 20)
	m.Got(4300, 300)
	m.Got(4400, 4)
	checkBytes(t, m, 325)
	for _, step := range []struct{ end, left int64 }{{5299, 325}, {5300, 25}, {5400, 21}, {5500, 1}, {6000, 0}} {
		m.Got(step.end, 0)
		checkBytes(t, m, step.left)
	}
	m.Got(-latest, 9)
	check(t, m, 0, 0, true)
}

// P14.1: the end is the greatest came so far, and does not go back with those
// that count.
func TestEndStays(t *testing.T) {
	m := opened(t, 10)
	m.Got(100, 1)
	m.Got(91, 2)
	m.Got(90, 4)
	checkBytes(t, m, 3)
	m.Got(91, 8)
	m.Got(90, 16)
	checkBytes(t, m, 11)
	m.Got(101, 32)
	checkBytes(t, m, 33)
}

// P14.1: of more than MaxReports that count the earliest one goes; of several,
// the one handed in first.
func TestTooManySamples(t *testing.T) {
	m := opened(t, latest)
	m.Got(5, 700)
	m.Got(5, 70)
	m.Got(7, 7)
	for range most - 3 {
		m.Got(9, 0)
	}
	checkBytes(t, m, 777)
	m.Got(4, 1000) // it is the earliest one itself
	checkBytes(t, m, 777)
	m.Got(5, 1) // the first one of 5
	checkBytes(t, m, 78)
	m.Got(8, 0)
	checkBytes(t, m, 8)
	m.Got(6, 100)
	checkBytes(t, m, 107)
	m.Got(6, 200)
	checkBytes(t, m, 207)
	m.Got(10, 0)
	checkBytes(t, m, 7)
	m.Got(10, 0)
	check(t, m, 0, 0, false)
}

// P14.1: those that all came at once go as they were handed in, and those that
// went never come back.
func TestTooManyAtOnce(t *testing.T) {
	m := opened(t, 1)
	for i := range 3 * most {
		m.Got(0, i%2)
	}
	check(t, m, most/2, most/2*8000000, false)
	for range most {
		m.Got(0, widest)
	}
	check(t, m, most*widest, most*widest*8000000, false)
	m.Got(1, 3)
	check(t, m, 3, 24000000, true)
	m.Got(0, 5)
	checkBytes(t, m, 3)
}

// P14.2: the rate is that of the time so far, at least 1000 ticks and at most the
// window.
func TestSpan(t *testing.T) {
	for _, c := range []struct{ window, over, span int64 }{
		{1, 0, 1},
		{500, 0, 500}, {500, 499, 500}, {999, 998, 999},
		{1000, 0, 1000}, {1000, 999, 1000}, {1001, 1000, 1000},
		{second, 0, 1000}, {second, 1, 1000}, {second, 999, 1000}, {second, 1000, 1000}, {second, 1001, 1001},
		{second, second - 1, second - 1}, {latest, latest - 1, latest - 1},
	} {
		for _, from := range []int64{0, -c.over, 1} {
			m := opened(t, c.window)
			m.Got(from, 1000)
			m.Got(from+c.over, 501)
			check(t, m, 1501, 1501*8000000/c.span, false)
			m = opened(t, c.window)
			m.Got(from+c.over, 501)
			m.Got(from, 1000)
			check(t, m, 1501, 1501*8000000/c.span, false)
		}
	}
}

// P14.2: the least came is that of all so far, whether it counts yet or not.
func TestFull(t *testing.T) {
	for _, window := range []int64{1, 2, 999, 1000, second, latest} {
		m := opened(t, window)
		m.Got(0, 1)
		check(t, m, 1, 8000000/min(window, 1000), false)
		m.Got(-window, 2)
		check(t, m, 1, 8000000/window, true)
	}
	m := opened(t, latest)
	m.Got(-latest, 1000)
	check(t, m, 1000, 8000000, false)
	m.Got(latest, 1000)
	check(t, m, 1000, 0, true)
	for range most {
		m.Got(latest, widest)
	}
	check(t, m, most*widest, most*widest*8000000/latest, true)

	m = opened(t, 3000)
	m.Got(0, 10)
	for range most {
		m.Got(2000, 1)
	}
	check(t, m, most, most*4000, false) // the first one went, and the time is still from it on
	m.Got(3000, 0)
	check(t, m, most-1, (most-1)*8000000/3000, true)
}

// P14.3: the loss is of the last 64 packets, as they were handed in.
func TestLoss(t *testing.T) {
	m := opened(t, 1000)
	m.Lost(0)
	checkLoss(t, m, 0)
	m.Lost(1)
	checkLoss(t, m, 256)
	m.Got(0, 1)
	checkLoss(t, m, 128)
	m.Got(0, 1)
	checkLoss(t, m, 85)
	m.Lost(0)
	checkLoss(t, m, 85)
	m.Got(-latest, 1) // it never counts for Bytes
	checkLoss(t, m, 64)
	for n := 5; n <= 64; n++ {
		m.Got(0, 1)
		checkLoss(t, m, 256/n)
	}
	m.Got(0, 1)
	checkLoss(t, m, 0)
	m.Lost(63)
	checkLoss(t, m, 252)
	m.Lost(1)
	checkLoss(t, m, 256)
	m.Got(0, 1)
	checkLoss(t, m, 252)
	m.Lost(2)
	checkLoss(t, m, 252)
	m.Lost(61)
	checkLoss(t, m, 252)
	m.Lost(1)
	checkLoss(t, m, 256)
}

// P14.3: from 0 to MaxReports packets are lost at once; else none is.
func TestLostAtOnce(t *testing.T) {
	for _, n := range []int{63, 64, 65, 127, 128, 129, most - 1, most} {
		m := opened(t, 1000)
		m.Got(0, 1)
		m.Lost(n)
		checkLoss(t, m, min(n, 64)*256/64)
	}
	for _, n := range []int{-1, most + 1, math.MinInt, math.MaxInt} {
		m := opened(t, 1000)
		m.Lost(n)
		checkLoss(t, m, 0)
		m.Got(0, 1)
		m.Lost(1)
		m.Lost(n)
		checkLoss(t, m, 128)
	}
	m := opened(t, 1000)
	m.Got(0, 10)
	m.Lost(most)
	check(t, m, 10, 80000, false) // what was lost is no sample
}

// P14.1 to P14.3: of nil all is nothing.
func TestNil(t *testing.T) {
	var m *Meter
	m.Got(0, 1)
	m.Lost(1)
	check(t, m, 0, 0, false)
	checkLoss(t, m, 0)
}

// plain is a meter that keeps all, and counts anew each time.
type plain struct {
	window int64
	all    []sample // as they were handed in
	live   []sample // those that count, as they were handed in
	fates  []int
}

func (p *plain) end() int64 {
	end := p.all[0].came
	for _, s := range p.all {
		end = max(end, s.came)
	}
	return end
}

func (p *plain) first() int64 {
	first := p.all[0].came
	for _, s := range p.all {
		first = min(first, s.came)
	}
	return first
}

func (p *plain) got(came int64, size int) {
	p.all = append(p.all, sample{came, size})
	p.live = append(p.live, sample{came, size})
	p.fates = append(p.fates, 0)
	end := p.end()
	p.live = slices.DeleteFunc(p.live, func(s sample) bool { return s.came <= end-p.window })
	if len(p.live) > most {
		least := 0
		for i, s := range p.live {
			if s.came < p.live[least].came {
				least = i
			}
		}
		p.live = slices.Delete(p.live, least, least+1)
	}
}

func (p *plain) lost(n int) {
	for range n {
		p.fates = append(p.fates, 1)
	}
}

func (p *plain) bytes() int64 {
	var n int64
	for _, s := range p.live {
		n += int64(s.size)
	}
	return n
}

func (p *plain) full() bool { return len(p.all) > 0 && p.end()-p.first() >= p.window }

func (p *plain) rate() int64 {
	if len(p.all) == 0 {
		return 0
	}
	span := p.window
	if !p.full() {
		span = p.end() - p.first()
		if span < 1000 {
			span = 1000
		}
		if span > p.window {
			span = p.window
		}
	}
	return units.Rate(p.bytes(), span)
}

func (p *plain) loss() int {
	l := p.fates[max(0, len(p.fates)-64):]
	if len(l) == 0 {
		return 0
	}
	n := 0
	for _, f := range l {
		n += f
	}
	return n * 256 / len(l)
}

// bounded asks for P14.4.
func bounded(t *testing.T, m *Meter, window int64) {
	t.Helper()
	if m.Rate() < 0 || window >= 1000 && m.Rate() > units.Rate(m.Bytes(), 1000) {
		t.Fatalf("window %d: Rate %d of %d bytes", window, m.Rate(), m.Bytes())
	}
}

// run gives a meter and a plain one the same, and asks both the same.
func run(t *testing.T, random *rand.Rand, window int64, steps int, step, back int64) *Meter {
	t.Helper()
	m, p := opened(t, window), &plain{window: window}
	now := random.Int63n(2*second) - second
	for i := range steps {
		switch k := random.Intn(8); {
		case k == 0:
			n := random.Intn(1 + random.Intn(80))
			m.Lost(n)
			p.lost(n)
		default:
			now += random.Int63n(step + 1)
			came, size := now-random.Int63n(back+1)*int64(random.Intn(2)), random.Intn(widest+1)
			m.Got(came, size)
			p.got(came, size)
		}
		if m.Loss() != p.loss() {
			t.Fatalf("window %d, step %d: Loss %d, not %d", window, i, m.Loss(), p.loss())
		}
		if m.Bytes() != p.bytes() || m.Full() != p.full() || m.Rate() != p.rate() {
			t.Fatalf("window %d, step %d: Bytes %d, Full %v, Rate %d, not %d, %v, %d", window, i, m.Bytes(), m.Full(), m.Rate(), p.bytes(), p.full(), p.rate())
		}
		bounded(t, m, window)
	}
	return m
}

// P14.1 to P14.4: of many scripts.
func TestScripts(t *testing.T) {
	random := rand.New(rand.NewSource(14))
	for range 400 {
		window := 1 + random.Int63n(5000)
		run(t, random, window, 100, random.Int63n(2*window), random.Int63n(2*window))
	}
	run(t, random, 500000, 1000, 1000, 10000)
}

// P14.1: of many scripts in which more than MaxReports count at times.
func TestScriptsOfMany(t *testing.T) {
	random := rand.New(rand.NewSource(41))
	for range 3 {
		m, p := opened(t, 60000), &plain{window: 60000}
		now := int64(0)
		for i := range 2 * most {
			now += random.Int63n(20) * random.Int63n(2)
			came, size := now-random.Int63n(40)*random.Int63n(1200)*random.Int63n(2), random.Intn(widest+1)
			m.Got(came, size)
			p.got(came, size)
			if i%64 == 0 && (m.Bytes() != p.bytes() || m.Full() != p.full() || m.Rate() != p.rate()) {
				t.Fatalf("step %d: Bytes %d, Full %v, Rate %d, not %d, %v, %d", i, m.Bytes(), m.Full(), m.Rate(), p.bytes(), p.full(), p.rate())
			}
			bounded(t, m, 60000)
		}
		if m.Bytes() != p.bytes() || m.Rate() != p.rate() {
			t.Fatal(m.Bytes(), m.Rate(), p.bytes(), p.rate())
		}
	}
}

// What counts no longer isn't kept: the room of the queue is bounded, however
// much came.
func TestRoomIsBounded(t *testing.T) {
	m := opened(t, 100)
	for i := range int64(100000) {
		m.Got(i, 1)
	}
	if len(m.queue) > 200 || cap(m.queue) > 1000 {
		t.Errorf("%d samples in a room of %d for 100 that count", len(m.queue), cap(m.queue))
	}
	m.Got(second, 1)
	if cap(m.queue) > 1 {
		t.Errorf("a room of %d for one that counts", cap(m.queue))
	}
}

// P14.4: the rate is bounded at the edges too.
func TestRateIsBounded(t *testing.T) {
	for _, window := range []int64{1, 999, 1000, 1001, second, latest} {
		m := opened(t, window)
		bounded(t, m, window)
		for _, came := range []int64{0, 1, 999, 1000, second, -latest, latest} {
			m.Got(came, widest)
			bounded(t, m, window)
		}
	}
}
