package group

import (
	"math"
	"math/rand"
	"testing"

	"flywheel/api"
)

const (
	top    = math.MaxInt64
	bottom = math.MinInt64
	latest = 1 << 50
)

// seen is what Open tells.
type seen struct {
	first, last, came int64
	size              int
}

// step is a packet, what Add tells of it (no delta where there is none), and what
// is open then.
type step struct {
	at, came int64
	size     int
	delta    *Delta
	open     seen
}

func opened(t *testing.T, burst int64) *Grouper {
	t.Helper()
	g, e := New(burst)
	if g == nil || e != api.OK {
		t.Fatalf("New(%d): %v, %v", burst, g, e)
	}
	return g
}

func packet(at, came int64, size int) api.Acked {
	return api.Acked{Sent: api.Sent{Size: size, At: at}, Came: came}
}

func check(t *testing.T, g *Grouper, want seen) {
	t.Helper()
	first, last, came, size, ok := g.Open()
	if got := (seen{first, last, came, size}); got != want || !ok {
		t.Fatalf("Open: %v, %v, not %v", got, ok, want)
	}
}

func checkNone(t *testing.T, g *Grouper) {
	t.Helper()
	first, last, came, size, ok := g.Open()
	if got := (seen{first, last, came, size}); got != (seen{}) || ok {
		t.Fatalf("Open: %v, %v of none", got, ok)
	}
}

func checkQuiet(t *testing.T, g *Grouper, a api.Acked) {
	t.Helper()
	if d, ok := g.Add(a); d != (Delta{}) || ok {
		t.Fatalf("Add(%v): %v, %v", a, d, ok)
	}
}

func run(t *testing.T, g *Grouper, steps []step) {
	t.Helper()
	for i, s := range steps {
		want := Delta{}
		if s.delta != nil {
			want = *s.delta
		}
		d, ok := g.Add(packet(s.at, s.came, s.size))
		if d != want || ok != (s.delta != nil) {
			t.Fatalf("step %d: %v, %v, not %v, %v", i, d, ok, want, s.delta != nil)
		}
		check(t, g, s.open)
	}
}

// P16.1: a burst is from 0 to MaxTime, and no group is open at first.
func TestNew(t *testing.T) {
	for _, burst := range []int64{0, 1, 5000, latest - 1, latest} {
		checkNone(t, opened(t, burst))
	}
	for _, burst := range []int64{bottom, -latest, -1, latest + 1, top} {
		if g, e := New(burst); g != nil || e != api.ErrArg {
			t.Errorf("New(%d): %v, %v", burst, g, e)
		}
	}
}

// P16.1: nil tells nothing.
func TestNil(t *testing.T) {
	var g *Grouper
	checkQuiet(t, g, packet(0, 0, 100))
	checkQuiet(t, g, packet(latest, 0, 100))
	checkNone(t, g)
}

// P16.2, example 1.
func TestExample(t *testing.T) {
	run(t, opened(t, 5000), []step{
		{0, 0, 1, nil, seen{0, 0, 0, 1}},
		{1000, 0, 1, nil, seen{0, 1000, 0, 2}},
		{20000, 0, 1, nil, seen{20000, 20000, 0, 1}},
		{40000, 0, 1, &Delta{Sent: 19000, Size: -1}, seen{40000, 40000, 0, 1}},
	})
}

// P16.2: a packet belongs to the open group up to burst behind its first At, not
// behind its greatest one.
func TestBurst(t *testing.T) {
	run(t, opened(t, 10), []step{
		{100, 1, 1, nil, seen{100, 100, 1, 1}},
		{109, 2, 2, nil, seen{100, 109, 2, 3}},
		{110, 3, 4, nil, seen{100, 110, 3, 7}},
		{111, 4, 8, nil, seen{111, 111, 4, 8}},
		{121, 5, 16, nil, seen{111, 121, 5, 24}},
		{122, 6, 32, &Delta{Sent: 11, Came: 2, Size: 17}, seen{122, 122, 6, 32}},
	})
	run(t, opened(t, 0), []step{
		{7, 1, 1, nil, seen{7, 7, 1, 1}},
		{7, 2, 2, nil, seen{7, 7, 2, 3}},
		{8, 3, 4, nil, seen{8, 8, 3, 4}},
		{9, 4, 8, &Delta{Sent: 1, Came: 1, Size: 1}, seen{9, 9, 4, 8}},
	})
}

// P16.2: the widest burst takes in all that is behind the first packet.
func TestWidestBurst(t *testing.T) {
	run(t, opened(t, latest), []step{
		{0, 0, 1, nil, seen{0, 0, 0, 1}},
		{latest, 0, 1, nil, seen{0, latest, 0, 2}},
		{latest / 2, 0, 1, nil, seen{0, latest, 0, 3}},
	})
	run(t, opened(t, latest-1), []step{
		{0, 0, 1, nil, seen{0, 0, 0, 1}},
		{latest - 1, 0, 1, nil, seen{0, latest - 1, 0, 2}},
		{latest, 0, 1, nil, seen{latest, latest, 0, 1}},
	})
}

// P16.2: the greatest At and the greatest Came are told, in whatever order the
// packets come, and the delta is of these.
func TestGreatest(t *testing.T) {
	run(t, opened(t, 100), []step{
		{1000, 50, 10, nil, seen{1000, 1000, 50, 10}},
		{1080, 40, 10, nil, seen{1000, 1080, 50, 20}},
		{1020, 70, 10, nil, seen{1000, 1080, 70, 30}},
		{1000, 60, 10, nil, seen{1000, 1080, 70, 40}},
		{1101, -5, 100, nil, seen{1101, 1101, -5, 100}},
		{1150, -9, 100, nil, seen{1101, 1150, -5, 200}},
		{1140, -7, 100, nil, seen{1101, 1150, -5, 300}},
		{5000, 0, 7, &Delta{Sent: 70, Came: -75, Size: 260}, seen{5000, 5000, 0, 7}},
		{6000, 9, 8, &Delta{Sent: 3850, Came: 5, Size: -293}, seen{6000, 6000, 9, 8}},
	})
}

// P16.2: what is sent ahead of the open group's first packet tells and changes
// nothing, even where a group that is done had it.
func TestAhead(t *testing.T) {
	g := opened(t, 10)
	run(t, g, []step{{100, 1, 5, nil, seen{100, 100, 1, 5}}})
	for _, at := range []int64{0, 90, 99} {
		checkQuiet(t, g, packet(at, 1000, 100))
		check(t, g, seen{100, 100, 1, 5})
	}
	run(t, g, []step{{200, 2, 6, nil, seen{200, 200, 2, 6}}})
	for _, at := range []int64{100, 110, 199} {
		checkQuiet(t, g, packet(at, 1000, 100))
		check(t, g, seen{200, 200, 2, 6})
	}
	run(t, g, []step{{300, 5, 9, &Delta{Sent: 100, Came: 1, Size: 1}, seen{300, 300, 5, 9}}})
}

// P16.2: a packet that is Late, or has a number out of its bounds, tells and
// changes nothing, with or without an open group.
func TestOutOfBounds(t *testing.T) {
	late := packet(500, 1, 1)
	late.Late = true
	wrong := []api.Acked{
		late,
		packet(500, 1, -1), packet(500, 1, 1501), packet(500, 1, bottom), packet(500, 1, top),
		packet(-1, 1, 1), packet(latest+1, 1, 1), packet(bottom, 1, 1), packet(top, 1, 1),
		packet(500, -latest-1, 1), packet(500, latest+1, 1), packet(500, bottom, 1), packet(500, top, 1),
	}
	g := opened(t, 1000)
	for _, a := range wrong {
		checkQuiet(t, g, a)
		checkNone(t, g)
	}
	run(t, g, []step{{400, 0, 2, nil, seen{400, 400, 0, 2}}})
	for _, a := range wrong {
		checkQuiet(t, g, a)
		check(t, g, seen{400, 400, 0, 2})
	}
	run(t, g, []step{{2000, 0, 2, nil, seen{2000, 2000, 0, 2}}})
	for _, a := range wrong {
		if a.At == 500 {
			a.At = 5000 // behind the open group
		}
		checkQuiet(t, g, a)
		check(t, g, seen{2000, 2000, 0, 2})
	}
	run(t, g, []step{{4000, 3, 2, &Delta{Sent: 1600}, seen{4000, 4000, 3, 2}}})
}

// P16.2: the bounds themselves count.
func TestBounds(t *testing.T) {
	run(t, opened(t, 0), []step{
		{0, -latest, 0, nil, seen{0, 0, -latest, 0}},
		{1, latest, 1500, nil, seen{1, 1, latest, 1500}},
		{latest, -latest, 0, &Delta{Sent: 1, Came: 2 * latest, Size: 1500}, seen{latest, latest, -latest, 0}},
	})
	run(t, opened(t, 0), []step{
		{0, latest, 1500, nil, seen{0, 0, latest, 1500}},
		{latest - 1, -latest, 0, nil, seen{latest - 1, latest - 1, -latest, 0}},
		{latest, 0, 3, &Delta{Sent: latest - 1, Came: -2 * latest, Size: -1500}, seen{latest, latest, 0, 3}},
	})
}

// P16.2: neither the packet's number nor what its way says of itself matters.
func TestOtherFields(t *testing.T) {
	g := opened(t, 10)
	for i, seq := range []int64{5, bottom, top, 0} {
		a := packet(100, int64(i), 1)
		a.Seq, a.Ecn = seq, i%2 == 1
		checkQuiet(t, g, a)
		check(t, g, seen{100, 100, int64(i), i + 1})
	}
}

// P16.2: a group is as great as its packets are together.
func TestManyPackets(t *testing.T) {
	g := opened(t, 10)
	const many = 5000
	for i := range many {
		checkQuiet(t, g, packet(int64(i%11), int64(i), 1500))
	}
	check(t, g, seen{0, 10, many - 1, many * 1500})
	run(t, g, []step{
		{20, 1, 0, nil, seen{20, 20, 1, 0}},
		{40, 1, 1, &Delta{Sent: 10, Came: 2 - many, Size: -many * 1500}, seen{40, 40, 1, 1}},
	})
}

// P16.1: what is asked changes nothing.
func TestAskedTwice(t *testing.T) {
	g := opened(t, 10)
	for range 3 {
		checkNone(t, g)
	}
	g.Add(packet(5, 6, 7))
	for range 3 {
		check(t, g, seen{5, 5, 6, 7})
	}
}

// Two groupers share nothing.
func TestTwo(t *testing.T) {
	a, b := opened(t, 10), opened(t, 10)
	run(t, a, []step{
		{0, 1, 1, nil, seen{0, 0, 1, 1}},
		{50, 2, 2, nil, seen{50, 50, 2, 2}},
	})
	checkNone(t, b)
	run(t, b, []step{{20, 3, 3, nil, seen{20, 20, 3, 3}}})
	check(t, a, seen{50, 50, 2, 2})
}

// plain keeps the packets of all groups, and works out what they tell anew.
type plain struct {
	burst  int64
	groups [][]api.Acked
}

func total(l []api.Acked) seen {
	s := seen{l[0].At, l[0].At, l[0].Came, 0}
	for _, a := range l {
		s.last, s.came, s.size = max(s.last, a.At), max(s.came, a.Came), s.size+a.Size
	}
	return s
}

func fits(v, lo, hi int64) bool { return lo <= v && v <= hi }

func (p *plain) add(a api.Acked) (Delta, bool) {
	if a.Late || !fits(int64(a.Size), 0, 1500) || !fits(a.At, 0, latest) || !fits(a.Came, -latest, latest) {
		return Delta{}, false
	}
	n := len(p.groups)
	if n > 0 {
		first := p.groups[n-1][0].At
		if a.At < first {
			return Delta{}, false
		}
		if a.At <= first+p.burst {
			p.groups[n-1] = append(p.groups[n-1], a)
			return Delta{}, false
		}
	}
	p.groups = append(p.groups, []api.Acked{a})
	if n < 2 {
		return Delta{}, false
	}
	ahead, later := total(p.groups[n-2]), total(p.groups[n-1])
	return Delta{later.last - ahead.last, later.came - ahead.came, later.size - ahead.size}, true
}

func drawn(r *rand.Rand, at int64) api.Acked {
	a := packet(at-r.Int63n(20), r.Int63n(2000)-1000, r.Intn(1501))
	if r.Intn(20) > 0 {
		return a
	}
	switch r.Intn(5) {
	case 0:
		a.Late = true
	case 1:
		a.At = []int64{bottom, -1, latest + 1, top}[r.Intn(4)]
	case 2:
		a.Came = []int64{bottom, -latest - 1, -latest, latest, latest + 1, top}[r.Intn(6)]
	case 3:
		a.Size = []int{bottom, -1, 0, 1500, 1501, top}[r.Intn(6)]
	case 4:
		a.At = 0
	}
	return a
}

// P16.1, P16.2 and P16.3: over scripts of all kinds the grouper answers as the
// plain one does, and the Sents add up.
func TestModel(t *testing.T) {
	r := rand.New(rand.NewSource(16))
	for range 300 {
		burst := r.Int63n(60)
		if r.Intn(8) == 0 {
			burst = []int64{0, latest}[r.Intn(2)]
		}
		g, p := opened(t, burst), &plain{burst: burst}
		at, sents := int64(20), int64(0)
		for range 200 {
			at += r.Int63n(25)
			a := drawn(r, at)
			want, told := p.add(a)
			if d, ok := g.Add(a); d != want || ok != told {
				t.Fatalf("Add(%v) of burst %d: %v, %v, not %v, %v", a, burst, d, ok, want, told)
			}
			sents += want.Sent
			n := len(p.groups)
			if n == 0 {
				checkNone(t, g)
				continue
			}
			check(t, g, total(p.groups[n-1]))
			if n > 1 && sents != total(p.groups[n-2]).last-total(p.groups[0]).last {
				t.Fatalf("the Sents add up to %d", sents)
			}
		}
	}
}

// P16.3: the Sents add up to the greatest At of the last done group less that of
// the first one, over the whole of time too.
func TestSentsAddUp(t *testing.T) {
	g := opened(t, 5)
	sum := int64(0)
	for i, s := range []struct{ at, sum int64 }{
		{3, 0}, {8, 0}, {4, 0}, {9, 0}, // 8 is the greatest At of the first group
		{latest / 2, 1}, {latest/2 + 5, 1},
		{latest - 9, latest/2 + 5 - 8}, {latest - 6, latest/2 + 5 - 8},
		{latest - 3, latest - 6 - 8}, {latest, latest - 6 - 8},
	} {
		d, _ := g.Add(packet(s.at, 0, 1))
		sum += d.Sent
		if sum != s.sum {
			t.Fatalf("step %d: the Sents add up to %d, not %d", i, sum, s.sum)
		}
	}
}
