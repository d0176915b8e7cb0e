package base

import (
	"math"
	"math/rand"
	"testing"

	"flywheel/api"
)

const (
	top    = math.MaxInt64
	bottom = math.MinInt64
	latest = 1 << 50
)

type step struct {
	at, delay    int64
	queue, least int64
}

func opened(t *testing.T, width int64, rows int) *Base {
	t.Helper()
	b, e := New(width, rows)
	if b == nil || e != api.OK {
		t.Fatalf("New(%d, %d): %v, %v", width, rows, b, e)
	}
	return b
}

func check(t *testing.T, b *Base, queue, least int64) {
	t.Helper()
	if got := b.Queue(); got != queue {
		t.Fatalf("Queue %d, not %d", got, queue)
	}
	if got, ok := b.Least(); got != least || !ok {
		t.Fatalf("Least %d, %v, not %d", got, ok, least)
	}
}

func checkNone(t *testing.T, b *Base) {
	t.Helper()
	if got := b.Queue(); got != 0 {
		t.Fatalf("Queue %d of none", got)
	}
	if got, ok := b.Least(); got != 0 || ok {
		t.Fatalf("Least %d, %v of none", got, ok)
	}
}

func run(t *testing.T, b *Base, steps []step) {
	t.Helper()
	for i, s := range steps {
		if got := b.Add(s.at, s.delay); got != s.queue {
			t.Fatalf("step %d: Add(%d, %d): %d, not %d", i, s.at, s.delay, got, s.queue)
		}
		check(t, b, s.queue, s.least)
	}
}

// P15.1: a width is from 1 to MaxTime, rows are from 1 to MaxWindow, and the base
// is of no sample.
func TestNew(t *testing.T) {
	widths := []struct {
		width int64
		ok    bool
	}{{bottom, false}, {-1, false}, {0, false}, {1, true}, {10, true}, {latest, true}, {latest + 1, false}, {top, false}}
	rows := []struct {
		rows int
		ok   bool
	}{{bottom, false}, {-1, false}, {0, false}, {1, true}, {2, true}, {64, true}, {65, false}, {top, false}}
	for _, w := range widths {
		for _, r := range rows {
			if w.ok && r.ok {
				checkNone(t, opened(t, w.width, r.rows))
				continue
			}
			if b, e := New(w.width, r.rows); b != nil || e != api.ErrArg {
				t.Errorf("New(%d, %d): %v, %v", w.width, r.rows, b, e)
			}
		}
	}
}

// P15.1: nil tells nothing.
func TestNil(t *testing.T) {
	var b *Base
	if got := b.Add(10, 5); got != 0 {
		t.Errorf("Add of nil: %d", got)
	}
	checkNone(t, b)
}

// P15.1, example 1.
func TestExample(t *testing.T) {
	run(t, opened(t, 10, 2), []step{{0, 5, 0, 5}, {10, 9, 4, 5}, {25, 9, 0, 9}})
}

// P15.1: a row is at divided by width, rounded down.
func TestRow(t *testing.T) {
	run(t, opened(t, 10, 1), []step{
		{0, 5, 0, 5}, {9, 6, 1, 5}, {10, 7, 0, 7}, {19, 8, 1, 7}, {20, 9, 0, 9},
	})
	run(t, opened(t, 1, 2), []step{
		{0, 5, 0, 5}, {1, 6, 1, 5}, {2, 7, 1, 6}, {3, 8, 1, 7}, {5, 9, 0, 9},
	})
	run(t, opened(t, 7, 64), []step{
		{6, 1, 0, 1}, {7, 2, 1, 1}, {7*64 - 1, 3, 2, 1}, {7 * 64, 4, 2, 2}, {7 * 65, 5, 2, 3},
	})
}

// P15.1: a sample counts, if its row is more than the newest one less rows; it may
// be late, and one that doesn't count has no queue.
func TestLate(t *testing.T) {
	run(t, opened(t, 10, 3), []step{
		{50, 20, 0, 20},
		{40, 15, 0, 15}, // row 4 of 5
		{30, 18, 3, 15}, // row 3 is more than 5 less 3
		{29, 1, 0, 15},  // row 2 is not
		{0, -9, 0, 15},
		{39, 12, 0, 12},
		{60, 30, 15, 15}, // row 3 counts no longer
		{39, 3, 0, 15},
		{70, 31, 11, 20},
		{80, 32, 2, 30},
	})
}

// P15.1: the newest row is of all samples, and its own sample is one of them: a
// leap lets all others go.
func TestLeap(t *testing.T) {
	run(t, opened(t, 10, 4), []step{
		{0, 1, 0, 1}, {10, 2, 1, 1}, {20, 3, 2, 1}, {30, 4, 3, 1},
		{70, 9, 0, 9}, {30, 1, 0, 9}, {40, 8, 0, 8}, {1000, 50, 0, 50}, {970, 49, 0, 49}, {960, 2, 0, 49},
	})
}

// P15.1: a row that had gone in the ring's place gives nothing to the one that has
// it now.
func TestRingPlace(t *testing.T) {
	b := opened(t, 1, 64)
	for at := range int64(64) {
		b.Add(at, at)
	}
	check(t, b, 63, 0)
	for at := int64(64); at < 640; at++ {
		if got := b.Add(at, at); got != 63 {
			t.Fatalf("Add(%d): %d", at, got)
		}
		check(t, b, 63, at-63)
	}
	run(t, b, []step{{703, 1000, 0, 1000}})
	run(t, b, []step{{639, 1, 0, 1000}, {640, 2000, 1000, 1000}, {641, 900, 0, 900}})
}

// P15.1: delays below 0 count as others, and a row keeps its least one.
func TestBelowZero(t *testing.T) {
	run(t, opened(t, 10, 2), []step{
		{0, -5, 0, -5}, {1, 0, 5, -5}, {2, -7, 0, -7}, {3, -6, 1, -7}, {10, 4, 11, -7}, {20, 4, 0, 4}, {21, 0, 0, 0}, {22, 1, 1, 0},
	})
}

// P15.1: at is held between 0 and MaxTime, delay between -MaxTime and MaxTime.
func TestHeld(t *testing.T) {
	run(t, opened(t, 10, 2), []step{
		{bottom, 5, 0, 5}, {-1, 6, 1, 5}, {9, 7, 2, 5}, {10, 8, 3, 5}, {-100, 4, 0, 4}, {20, 9, 1, 8},
	})
	run(t, opened(t, 1, 1), []step{
		{latest - 1, 5, 0, 5}, {latest, 6, 0, 6}, {latest + 1, 7, 1, 6}, {top, 8, 2, 6}, {latest, 9, 3, 6}, {latest - 1, 1, 0, 6},
	})
	run(t, opened(t, latest, 64), []step{
		{0, top, 0, latest}, {0, latest + 1, 0, latest}, {0, latest, 0, latest}, {0, latest - 1, 0, latest - 1},
		{latest, -latest, 0, -latest}, {latest, -latest - 1, 0, -latest}, {top, bottom, 0, -latest},
		{bottom, 1 - latest, 1, -latest}, {0, top, 2 * latest, -latest},
	})
}

// P15.1: what is asked changes nothing.
func TestAskedTwice(t *testing.T) {
	b := opened(t, 10, 2)
	b.Add(0, 5)
	b.Add(10, 9)
	for range 3 {
		check(t, b, 4, 5)
	}
	run(t, b, []step{{15, 6, 1, 5}, {20, 7, 1, 6}})
}

// Two bases share nothing.
func TestTwo(t *testing.T) {
	a, b := opened(t, 10, 2), opened(t, 10, 2)
	a.Add(0, 5)
	checkNone(t, b)
	run(t, b, []step{{0, 9, 0, 9}})
	check(t, a, 0, 5)
}

// plain keeps all samples, and asks each one anew whether it counts.
type plain struct {
	width  int64
	rows   int64
	row    []int64
	delay  []int64
	newest int64
	queue  int64
}

func within(v, lo, hi int64) int64 { return min(max(v, lo), hi) }

func (p *plain) least() (int64, bool) {
	best, ok := int64(top), false
	for i, r := range p.row {
		if r > p.newest-p.rows {
			best, ok = min(best, p.delay[i]), true
		}
	}
	if !ok {
		return 0, false
	}
	return best, true
}

func (p *plain) add(at, delay int64) {
	row := within(at, 0, latest) / p.width
	delay = within(delay, -latest, latest)
	p.row, p.delay = append(p.row, row), append(p.delay, delay)
	p.newest = max(p.newest, row)
	p.queue = 0
	if least, ok := p.least(); ok && row > p.newest-p.rows {
		p.queue = delay - least
	}
}

func drawn(r *rand.Rand, near int64) int64 {
	switch r.Intn(40) {
	case 0:
		return r.Int63() - r.Int63()
	case 1:
		return []int64{top, bottom, latest, -latest, 0, -1}[r.Intn(6)]
	}
	return near + r.Int63n(60) - 20
}

// P15.1 and P15.2: over scripts of all kinds the ring answers as the plain base
// does, and no queue is below 0.
func TestModel(t *testing.T) {
	r := rand.New(rand.NewSource(15))
	for range 400 {
		width, rows := 1+r.Int63n(20), 1+r.Intn(64)
		if r.Intn(4) == 0 {
			rows = 1 + r.Intn(3)
		}
		if r.Intn(10) == 0 {
			width = 1 + r.Int63n(latest)
		}
		b, p := opened(t, width, rows), &plain{width: width, rows: int64(rows)}
		at := int64(0)
		for range 150 {
			at += r.Int63n(15)
			if r.Intn(30) == 0 {
				at += r.Int63n(2000)
			}
			now, delay := drawn(r, at), drawn(r, 0)
			p.add(now, delay)
			if got := b.Add(now, delay); got != p.queue || got < 0 {
				t.Fatalf("Add(%d, %d) of width %d, rows %d: %d, not %d", now, delay, width, rows, got, p.queue)
			}
			least, _ := p.least()
			check(t, b, p.queue, least)
		}
	}
}

// P15.2: Queue is never below 0, whatever is added.
func TestNeverBelowZero(t *testing.T) {
	r := rand.New(rand.NewSource(152))
	edges := []int64{bottom, bottom + 1, -latest - 1, -latest, -latest + 1, -1, 0, 1, 9, 10, 11, latest - 1, latest, latest + 1, top - 1, top}
	for _, width := range []int64{1, 10, latest} {
		for _, rows := range []int{1, 2, 64} {
			b := opened(t, width, rows)
			for range 2000 {
				at, delay := edges[r.Intn(len(edges))], edges[r.Intn(len(edges))]
				if got := b.Add(at, delay); got < 0 || got > 2*latest || b.Queue() != got {
					t.Fatalf("Add(%d, %d): %d, Queue %d", at, delay, got, b.Queue())
				}
			}
		}
	}
}
