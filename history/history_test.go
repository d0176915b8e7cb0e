package history

import (
	"math"
	"math/rand"
	"slices"
	"testing"

	"flywheel/api"
)

const (
	top     = math.MaxInt64
	bottom  = math.MinInt64
	most    = 1024 // packets that are remembered
	widest  = 1500 // bytes of a packet
	latest  = 1 << 50
	turn    = 65536 // how many numbers a packet can carry
	timeout = 1000  // of most histories here
)

func opened(t *testing.T, timeout int64) *History {
	t.Helper()
	h, e := New(timeout)
	if h == nil || e != api.OK {
		t.Fatalf("New(%d): %v, %v", timeout, h, e)
	}
	return h
}

func checkState(t *testing.T, h *History, next int64, count int, flying int64) {
	t.Helper()
	if h.Next() != next || h.Count() != count || h.InFlight() != flying {
		t.Fatalf("Next %d, Count %d, InFlight %d, not %d, %d, %d", h.Next(), h.Count(), h.InFlight(), next, count, flying)
	}
}

// checkSend sends what has to be taken, and asks what the packet carries.
func checkSend(t *testing.T, h *History, size int, at int64) {
	t.Helper()
	n := h.Next()
	if seq, e := h.Send(size, at); seq != int(n%turn) || e != api.OK || h.Next() != n+1 {
		t.Fatalf("Send(%d, %d) of number %d: %d, %v, Next %d", size, at, n, seq, e, h.Next())
	}
}

// checkRefused asks for an error, and whether all is as it was.
func checkRefused(t *testing.T, h *History, size int, at int64, want api.Errno) {
	t.Helper()
	next, count, flying := h.Next(), h.Count(), h.InFlight()
	if seq, e := h.Send(size, at); seq != 0 || e != want {
		t.Fatalf("Send(%d, %d): %d, %v, not 0, %v", size, at, seq, e, want)
	}
	checkState(t, h, next, count, flying)
}

func checkHear(t *testing.T, h *History, l []api.Report, got []api.Acked, lost []api.Sent) {
	t.Helper()
	g, m := h.Hear(l, 0)
	if !slices.Equal(g, got) || !slices.Equal(m, lost) {
		t.Fatalf("Hear(%v): %v, %v, not %v, %v", l, g, m, got, lost)
	}
}

func checkExpire(t *testing.T, h *History, now int64, want ...api.Sent) {
	t.Helper()
	if l := h.Expire(now); !slices.Equal(l, want) {
		t.Fatalf("Expire(%d): %v, not %v", now, l, want)
	}
}

func came(seq int, at int64) api.Report { return api.Report{Seq: seq, Got: true, At: at} }

func gone(seq int) api.Report { return api.Report{Seq: seq} }

// skip sends and hears of packets of no bytes, till the next number is n.
func skip(t *testing.T, h *History, n, at int64) {
	t.Helper()
	for h.Next() < n {
		m := h.Next()
		checkSend(t, h, 0, at)
		checkHear(t, h, []api.Report{gone(int(m % turn))}, nil, []api.Sent{{Seq: m, At: at}})
	}
}

// P13.1: which timeouts there are, and a history of nothing.
func TestNew(t *testing.T) {
	for _, n := range []int64{1, 2, 1000, 1 << 40, latest - 1, latest} {
		h := opened(t, n)
		checkState(t, h, 0, 0, 0)
		checkHear(t, h, []api.Report{came(0, 1), gone(0), came(65535, 1), gone(65535)}, nil, nil)
		checkExpire(t, h, top)
		checkState(t, h, 0, 0, 0)
	}
	for _, n := range []int64{bottom, bottom + 1, -latest, -1000, -1, 0, latest + 1, latest + 2, 1 << 51, 1 << 62, top - 1, top} {
		if h, e := New(n); h != nil || e != api.ErrArg {
			t.Errorf("New(%d): %v, %v", n, h, e)
		}
	}
}

// P13.1: what is asked of nil.
func TestNil(t *testing.T) {
	var h *History
	for _, x := range []struct {
		size int
		at   int64
	}{{0, 0}, {100, 10}, {-1, -1}, {widest + 1, latest + 1}} {
		checkRefused(t, h, x.size, x.at, api.ErrArg)
	}
	checkHear(t, h, nil, nil, nil)
	checkHear(t, h, []api.Report{came(0, 1), gone(1)}, nil, nil)
	for _, now := range []int64{bottom, 0, top} {
		checkExpire(t, h, now)
	}
	checkState(t, h, 0, 0, 0)
}

// P13.1: Next counts what was sent, Count and InFlight what is remembered.
func TestState(t *testing.T) {
	h := opened(t, timeout)
	for i, x := range []struct {
		size   int
		flying int64
	}{{100, 100}, {0, 100}, {1500, 1600}, {7, 1607}} {
		checkSend(t, h, x.size, 5)
		checkState(t, h, int64(i)+1, i+1, x.flying)
	}
	checkHear(t, h, []api.Report{gone(1)}, nil, []api.Sent{{Seq: 1, At: 5}})
	checkState(t, h, 4, 3, 1607)
	checkHear(t, h, []api.Report{came(2, 9)}, []api.Acked{{Sent: api.Sent{Seq: 2, Size: 1500, At: 5}, Came: 9}}, nil)
	checkState(t, h, 4, 2, 107)
	checkSend(t, h, 20, 600)
	checkState(t, h, 5, 3, 127)
	checkExpire(t, h, 1006, api.Sent{Seq: 0, Size: 100, At: 5}, api.Sent{Seq: 3, Size: 7, At: 5})
	checkState(t, h, 5, 1, 20)
	checkExpire(t, h, top, api.Sent{Seq: 4, Size: 20, At: 600})
	checkState(t, h, 5, 0, 0)
}

// P13.2: which sizes and times there are.
func TestSend(t *testing.T) {
	for _, size := range []int{0, 1, 2, 100, widest - 1, widest} {
		for _, at := range []int64{0, 1, 1000, latest - 1, latest} {
			h := opened(t, timeout)
			checkSend(t, h, size, at)
			checkState(t, h, 1, 1, int64(size))
			checkExpire(t, h, top, api.Sent{Size: size, At: at})
		}
	}
	h := opened(t, timeout)
	for _, size := range []int{math.MinInt, math.MinInt + 1, -1 << 32, -1500, -1, widest + 1, widest + 2, 65536, 1 << 32, 1<<32 + 1, math.MaxInt - 1, math.MaxInt} {
		for _, at := range []int64{0, 10, latest, -1, latest + 1} {
			checkRefused(t, h, size, at, api.ErrArg)
		}
	}
	for _, at := range []int64{bottom, bottom + 1, -latest, -1, latest + 1, latest + 2, 1 << 62, top - 1, top} {
		for _, size := range []int{0, 100, widest, -1, widest + 1} {
			checkRefused(t, h, size, at, api.ErrArg)
		}
	}
	checkExpire(t, h, top)
}

// P13.2: a time below that of the one ahead; one that is the same.
func TestSendTime(t *testing.T) {
	h := opened(t, timeout)
	checkSend(t, h, 1, 0)
	checkSend(t, h, 1, 0)
	checkSend(t, h, 1, 10)
	checkRefused(t, h, 1, 9, api.ErrTime)
	checkRefused(t, h, 1, 0, api.ErrTime)
	checkSend(t, h, 1, 10)
	checkSend(t, h, 1, 11)
	checkRefused(t, h, 1, 10, api.ErrTime)
	checkSend(t, h, 1, latest)
	checkRefused(t, h, 1, latest-1, api.ErrTime)
	checkSend(t, h, 1, latest)
}

// P13.2: the one ahead counts also where it is not remembered any more.
func TestSendTimeOfForgotten(t *testing.T) {
	h := opened(t, timeout)
	checkSend(t, h, 1, 10)
	checkSend(t, h, 1, 500)
	checkHear(t, h, []api.Report{gone(1)}, nil, []api.Sent{{Seq: 1, Size: 1, At: 500}})
	checkRefused(t, h, 1, 499, api.ErrTime)
	checkExpire(t, h, top, api.Sent{Seq: 0, Size: 1, At: 10})
	checkRefused(t, h, 1, 499, api.ErrTime)
	checkRefused(t, h, 1, 0, api.ErrTime)
	checkSend(t, h, 1, 500)
}

// P13.2: what was refused is not the one ahead.
func TestSendTimeOfRefused(t *testing.T) {
	h := opened(t, timeout)
	checkRefused(t, h, -1, 100, api.ErrArg)
	checkRefused(t, h, 1, latest+1, api.ErrArg)
	checkSend(t, h, 1, 10)
	checkRefused(t, h, widest+1, 100, api.ErrArg)
	checkRefused(t, h, 1, 9, api.ErrTime)
	checkSend(t, h, 1, 10)
	for h.Count() < most {
		checkSend(t, h, 1, 10)
	}
	checkRefused(t, h, 1, 2000, api.ErrFull)
	checkHear(t, h, []api.Report{gone(0)}, nil, []api.Sent{{Size: 1, At: 10}})
	checkSend(t, h, 1, 10)
}

// P13.2: neither Hear's now nor Expire's, nor when a packet came, is a time that
// the next one has to be behind.
func TestSendTimeOfOthers(t *testing.T) {
	h := opened(t, timeout)
	checkSend(t, h, 1, 10)
	h.Hear([]api.Report{came(0, 9000)}, 9000)
	h.Expire(9000)
	checkSend(t, h, 1, 10)
}

// P13.2: as many as may be remembered, and room for another one.
func TestFull(t *testing.T) {
	h := opened(t, timeout)
	for range most {
		checkSend(t, h, widest, 10)
	}
	checkState(t, h, most, most, most*widest)
	checkRefused(t, h, 1, 10, api.ErrFull)
	checkRefused(t, h, 0, latest, api.ErrFull)
	checkRefused(t, h, 1, 9, api.ErrTime)
	checkRefused(t, h, -1, 9, api.ErrArg)
	checkRefused(t, h, 1, latest+1, api.ErrArg)
	checkHear(t, h, []api.Report{gone(500)}, nil, []api.Sent{{Seq: 500, Size: widest, At: 10}})
	checkSend(t, h, 3, 20)
	checkState(t, h, most+1, most, (most-1)*widest+3)
	checkRefused(t, h, 1, 20, api.ErrFull)
	if l := h.Expire(1011); len(l) != most-1 {
		t.Fatal(len(l))
	}
	checkState(t, h, most+1, 1, 3)
	for range most - 1 {
		checkSend(t, h, 1, 20)
	}
	checkRefused(t, h, 1, 20, api.ErrFull)
}

// P13.2: the number does not go round, what the packet carries of it does.
func TestSendRound(t *testing.T) {
	h := opened(t, timeout)
	for _, n := range []int64{turn, 2 * turn, 3 * turn} {
		skip(t, h, n-1, 1)
		checkSend(t, h, 5, 1)
		checkSend(t, h, 6, 1)
		checkHear(t, h, []api.Report{came(0, 8), gone(65535)},
			[]api.Acked{{Sent: api.Sent{Seq: n, Size: 6, At: 1}, Came: 8}}, []api.Sent{{Seq: n - 1, Size: 5, At: 1}})
	}
}

// P13.3: what is told of one that was got, and of one that was lost.
func TestHear(t *testing.T) {
	for _, r := range []api.Report{
		{}, {At: 70}, {Late: true}, {Ecn: true}, {At: 70, Late: true, Ecn: true}, {At: bottom}, {At: top},
	} {
		for _, now := range []int64{bottom, -1, 0, 50, 5000, top} {
			h := opened(t, timeout)
			checkSend(t, h, 300, 40)
			checkSend(t, h, 301, 41)
			r.Seq, r.Got = 0, true
			first := api.Acked{Sent: api.Sent{Size: 300, At: 40}, Came: r.At, Late: r.Late, Ecn: r.Ecn}
			if got, lost := h.Hear([]api.Report{r}, now); !slices.Equal(got, []api.Acked{first}) || len(lost) != 0 {
				t.Fatalf("%v: %v, %v", r, got, lost)
			}
			checkState(t, h, 2, 1, 301)
			r.Seq, r.Got = 1, false
			second := api.Sent{Seq: 1, Size: 301, At: 41}
			if got, lost := h.Hear([]api.Report{r}, now); len(got) != 0 || !slices.Equal(lost, []api.Sent{second}) {
				t.Fatalf("%v: %v, %v", r, got, lost)
			}
			checkState(t, h, 2, 0, 0)
		}
	}
}

// P13.3: no reports tell nothing.
func TestHearNone(t *testing.T) {
	h := opened(t, timeout)
	checkSend(t, h, 300, 40)
	checkHear(t, h, nil, nil, nil)
	checkHear(t, h, []api.Report{}, nil, nil)
	checkState(t, h, 1, 1, 300)
}

// P13.3: the order is that in which they were told, not that of the numbers.
func TestHearOrder(t *testing.T) {
	h := opened(t, timeout)
	for i := range int64(8) {
		checkSend(t, h, int(i), 10*i)
	}
	sent := func(n int64) api.Sent { return api.Sent{Seq: n, Size: int(n), At: 10 * n} }
	checkHear(t, h, []api.Report{came(5, 90), gone(7), came(1, 95), gone(0), came(6, 80), gone(3)},
		[]api.Acked{{Sent: sent(5), Came: 90}, {Sent: sent(1), Came: 95}, {Sent: sent(6), Came: 80}},
		[]api.Sent{sent(7), sent(0), sent(3)})
	checkState(t, h, 8, 2, 6)
}

// P13.3: of several reports on one packet the first one counts, whatever it told,
// in one call and over several.
func TestHearTwice(t *testing.T) {
	h := opened(t, timeout)
	for range 4 {
		checkSend(t, h, 10, 20)
	}
	sent := func(n int64) api.Sent { return api.Sent{Seq: n, Size: 10, At: 20} }
	checkHear(t, h, []api.Report{came(0, 30), came(0, 31), gone(0), gone(1), came(1, 32), gone(1)},
		[]api.Acked{{Sent: sent(0), Came: 30}}, []api.Sent{sent(1)})
	checkHear(t, h, []api.Report{came(0, 30), gone(1), gone(0), came(1, 33), came(2, 34)}, []api.Acked{{Sent: sent(2), Came: 34}}, nil)
	checkHear(t, h, []api.Report{came(0, 30), gone(1), came(2, 34), gone(2)}, nil, nil)
	checkState(t, h, 4, 1, 10)
}

// P13.3: what was not sent yet, or is not remembered any more, tells nothing.
func TestHearUnknown(t *testing.T) {
	h := opened(t, timeout)
	checkSend(t, h, 10, 20)
	checkSend(t, h, 11, 2000)
	checkExpire(t, h, 2000, api.Sent{Size: 10, At: 20})
	for _, seq := range []int{0, 2, 3, 1000, 32767, 32768, 32769, 32770, 65534, 65535} {
		checkHear(t, h, []api.Report{came(seq, 9), gone(seq)}, nil, nil)
	}
	checkState(t, h, 2, 1, 11)
}

// P13.3: ahead of the first Send no number is any packet's, and what was told
// then is nothing to what comes.
func TestHearAheadOfSend(t *testing.T) {
	h := opened(t, timeout)
	for _, seq := range []int{math.MinInt, -1, 0, 1, 32767, 32768, 65535, math.MaxInt} {
		checkHear(t, h, []api.Report{came(seq, 9), gone(seq)}, nil, nil)
	}
	checkSend(t, h, 10, 20)
	checkHear(t, h, []api.Report{gone(0)}, nil, []api.Sent{{Size: 10, At: 20}})
}

// P13.3: of a Seq that is not of 16 bits the lower bits count.
func TestHearCutsSeq(t *testing.T) {
	for _, x := range []struct {
		seq int
		n   int64
	}{
		{turn, 0}, {turn + 2, 2}, {-turn, 0}, {-turn + 1, 1}, {-turn*5 + 2, 2}, {1 << 40, 0}, {1<<40 + 1, 1},
		{math.MinInt, 0}, {math.MinInt + 2, 2}, {math.MaxInt - 65535, 0}, {math.MaxInt - 65533, 2},
	} {
		h := opened(t, timeout)
		for range 3 {
			checkSend(t, h, 10, 20)
		}
		checkHear(t, h, []api.Report{came(x.seq, 9)}, []api.Acked{{Sent: api.Sent{Seq: x.n, Size: 10, At: 20}, Came: 9}}, nil)
	}
	h := opened(t, timeout)
	checkSend(t, h, 10, 20)
	for _, seq := range []int{-1, -65535, 65535, 65537, math.MaxInt, math.MinInt + 1} {
		checkHear(t, h, []api.Report{came(seq, 9), gone(seq)}, nil, nil)
	}
}

// P13.3: numbers are taken by the last one that was sent: the same Seq is another
// packet's a turn later.
func TestHearNear(t *testing.T) {
	h := opened(t, timeout)
	skip(t, h, turn-2, 1)
	for range 4 {
		checkSend(t, h, 10, 20)
	}
	sent := func(n int64) api.Sent { return api.Sent{Seq: n, Size: 10, At: 20} }
	checkHear(t, h, []api.Report{gone(65533), gone(2), came(1, 9), came(65534, 9), gone(0), gone(65535)},
		[]api.Acked{{Sent: sent(turn + 1), Came: 9}, {Sent: sent(turn - 2), Came: 9}}, []api.Sent{sent(turn), sent(turn - 1)})
}

// P13.3: one that is remembered is found while it is less than half the way
// round behind the last one, and not from there on.
func TestHearHalf(t *testing.T) {
	for _, first := range []int64{0, 5, 40000, turn} {
		h := opened(t, timeout)
		skip(t, h, first, 1)
		checkSend(t, h, 10, 1)
		checkSend(t, h, 11, 1)
		skip(t, h, first+turn/2+1, 1)
		a, b := int(first%turn), int((first+1)%turn)
		checkHear(t, h, []api.Report{came(a, 9), gone(a)}, nil, nil)
		checkHear(t, h, []api.Report{gone(b)}, nil, []api.Sent{{Seq: first + 1, Size: 11, At: 1}})
		skip(t, h, first+turn, 1)
		checkHear(t, h, []api.Report{came(a, 9), gone(a)}, nil, nil)
		checkSend(t, h, 12, 1)
		checkHear(t, h, []api.Report{gone(a)}, nil, []api.Sent{{Seq: first + turn, Size: 12, At: 1}})
		skip(t, h, first+2*turn+7, 1)
		checkState(t, h, first+2*turn+7, 1, 10)
		checkExpire(t, h, 5000, api.Sent{Seq: first, Size: 10, At: 1})
	}
}

// P13.4: more than the timeout ahead, not just as much.
func TestExpire(t *testing.T) {
	for _, n := range []int64{1, 2, 1000, latest} {
		for _, at := range []int64{0, 1, 500, latest} {
			h := opened(t, n)
			checkSend(t, h, 10, at)
			for _, now := range []int64{bottom, bottom + 1, bottom + at, bottom + at + n, -n, at - n - 1, at - n, at - 1, at, at + n - 1, at + n} {
				checkExpire(t, h, now)
				checkState(t, h, 1, 1, 10)
			}
			checkExpire(t, h, at+n+1, api.Sent{Size: 10, At: at})
			checkState(t, h, 1, 0, 0)
			checkExpire(t, h, at+n+1)
			checkExpire(t, h, top)
			checkHear(t, h, []api.Report{came(0, 9), gone(0)}, nil, nil)
		}
	}
}

// P13.4: at the ends of all times.
func TestExpireSaturated(t *testing.T) {
	for _, at := range []int64{0, 1, latest} {
		h := opened(t, latest)
		checkSend(t, h, 10, at)
		for _, now := range []int64{bottom, bottom + 1, bottom + at/2, bottom + at, bottom + at + 1} {
			checkExpire(t, h, now)
		}
		checkExpire(t, h, top, api.Sent{Size: 10, At: at})
	}
}

// P13.4: by rising number, without those that were told of.
func TestExpireOrder(t *testing.T) {
	h := opened(t, timeout)
	skip(t, h, turn-most/2, 0)
	first := h.Next()
	var want []api.Sent
	for i := range int64(most) {
		checkSend(t, h, int(i), i/3)
		want = append(want, api.Sent{Seq: first + i, Size: int(i), At: i / 3})
	}
	heard := func(s api.Sent) bool { return s.Seq%5 == 2 }
	for _, s := range want {
		if heard(s) {
			checkHear(t, h, []api.Report{gone(int(s.Seq % turn))}, nil, []api.Sent{s})
		}
	}
	want = slices.DeleteFunc(want, heard)
	for _, now := range []int64{1000, 1001, 1001, 1002, 900, 1150, 1341, 1342, 1342} {
		old := 0
		for old < len(want) && now-want[old].At > timeout {
			old++
		}
		checkExpire(t, h, now, want[:old]...)
		want = want[old:]
		if h.Count() != len(want) {
			t.Fatalf("Count %d, not %d", h.Count(), len(want))
		}
	}
	if len(want) != 0 {
		t.Fatalf("%d are left", len(want))
	}
}

// P13.4: what was sent since is not given up with what was sent ahead of it.
func TestExpireAndGoOn(t *testing.T) {
	h := opened(t, 5)
	for i := range int64(3 * most) {
		checkSend(t, h, 10, 10*i)
		if i > 0 {
			checkExpire(t, h, 10*i, api.Sent{Seq: i - 1, Size: 10, At: 10*i - 10})
		}
		checkState(t, h, i+1, 1, 10)
	}
}

// plain is the chapter once more: all that was ever sent, and what became of it.
type plain struct {
	timeout int64
	all     []api.Sent
	over    []bool // it is remembered no longer
}

func (p *plain) send(size int, at int64) (int, api.Errno) {
	n := len(p.all)
	if size < 0 || size > widest || at < 0 || at > latest {
		return 0, api.ErrArg
	}
	if n > 0 && at < p.all[n-1].At {
		return 0, api.ErrTime
	}
	if count, _ := p.left(); count == most {
		return 0, api.ErrFull
	}
	p.all, p.over = append(p.all, api.Sent{Seq: int64(n), Size: size, At: at}), append(p.over, false)
	return n % turn, api.OK
}

// left is what is remembered: how many, and how many bytes.
func (p *plain) left() (count int, flying int64) {
	for i, s := range p.all {
		if !p.over[i] {
			count++
			flying += int64(s.Size)
		}
	}
	return count, flying
}

// nearest goes over numbers about the last one, and takes the one that is the
// least way off, the greater one of two.
func (p *plain) nearest(seq int) int {
	last := len(p.all) - 1
	for d := 0; ; d++ {
		for _, n := range []int{last + d, last - d} {
			if (n-seq)&(turn-1) == 0 {
				return n
			}
		}
	}
}

func (p *plain) hear(l []api.Report) (got []api.Acked, lost []api.Sent) {
	for _, r := range l {
		n := p.nearest(r.Seq)
		if len(p.all) == 0 || n < 0 || n >= len(p.all) || p.over[n] {
			continue
		}
		p.over[n] = true
		if !r.Got {
			lost = append(lost, p.all[n])
			continue
		}
		got = append(got, api.Acked{Sent: p.all[n], Came: r.At, Late: r.Late, Ecn: r.Ecn})
	}
	return got, lost
}

func (p *plain) expire(now int64) (l []api.Sent) {
	for i, s := range p.all {
		if !p.over[i] && now > s.At+p.timeout {
			p.over[i] = true
			l = append(l, s)
		}
	}
	return l
}

// someReports tell of packets by chance, most of them about the last one.
func someReports(source *rand.Rand, next int) []api.Report {
	var l []api.Report
	for range source.Intn(12) {
		seq := (next - source.Intn(80) + 5) & (turn - 1)
		if source.Intn(9) == 0 {
			seq = int(source.Uint64()) >> source.Intn(64)
		}
		l = append(l, api.Report{
			Seq: seq, Got: source.Intn(3) > 0, At: int64(source.Uint64()), Late: source.Intn(4) == 0, Ecn: source.Intn(4) == 0,
		})
	}
	return l
}

// someSend is what is sent by chance, at times behind at or a bit ahead of it.
func someSend(source *rand.Rand, at int64) (int, int64) {
	size, at := source.Intn(widest+1), at+int64(source.Intn(40)-4)
	switch source.Intn(20) {
	case 0:
		size = int(source.Uint64()) >> source.Intn(64)
	case 1:
		at = int64(source.Uint64()) >> source.Intn(64)
		if at >= 0 && at <= latest {
			at = -at - 1 // one that is taken would leave no time for others
		}
	}
	return size, at
}

// script asks a history, and plain, for the same things by chance, and holds
// what they tell against each other.
type script struct {
	t      *testing.T
	source *rand.Rand
	h      *History
	p      *plain
	at     int64
	told   map[int64]int // how many times a packet was
	bytes  int64         // of those that were
}

func (s *script) send() {
	size, at := someSend(s.source, s.at)
	want, e := s.p.send(size, at)
	if seq, f := s.h.Send(size, at); seq != want || f != e {
		s.t.Fatalf("Send(%d, %d): %d, %v, not %d, %v", size, at, seq, f, want, e)
	}
	if e == api.OK {
		s.at = at
	}
}

func (s *script) hear() {
	l := someReports(s.source, len(s.p.all))
	got, lost := s.p.hear(l)
	checkHear(s.t, s.h, l, got, lost)
	for _, a := range got {
		lost = append(lost, a.Sent)
	}
	s.count(lost)
}

func (s *script) expire() {
	now := s.at + int64(s.source.Intn(3000)) - 500
	l := s.p.expire(now)
	checkExpire(s.t, s.h, now, l...)
	s.count(l)
}

func (s *script) count(l []api.Sent) {
	for _, x := range l {
		s.told[x.Seq]++
		s.bytes += int64(x.Size)
		if s.told[x.Seq] > 1 {
			s.t.Fatalf("%d was told of twice", x.Seq)
		}
	}
}

// checkAll asks whether all that was sent was told of, or is remembered.
func (s *script) checkAll() {
	count, flying := s.p.left()
	checkState(s.t, s.h, int64(len(s.p.all)), count, flying)
	var all int64
	for _, x := range s.p.all {
		all += int64(x.Size)
	}
	if len(s.told)+s.h.Count() != len(s.p.all) || s.bytes+s.h.InFlight() != all {
		s.t.Fatalf("%d of %d packets, %d of %d bytes", len(s.told)+s.h.Count(), len(s.p.all), s.bytes+s.h.InFlight(), all)
	}
}

// P13.1 to P13.5: scripts by chance against the chapter read once more.
func TestExact(t *testing.T) {
	source := rand.New(rand.NewSource(13))
	for range 300 {
		n := 1 + int64(source.Intn(3000))
		s := &script{t: t, source: source, h: opened(t, n), p: &plain{timeout: n}, told: map[int64]int{}}
		sends := 2 + source.Intn(30)
		for range 600 {
			switch k := source.Intn(sends + 3); {
			case k < sends:
				s.send()
			case k < sends+2:
				s.hear()
			default:
				s.expire()
			}
		}
		s.checkAll()
	}
}

// P13.2 to P13.5: a script that fills the history and goes round.
func TestExactFull(t *testing.T) {
	source := rand.New(rand.NewSource(131))
	s := &script{t: t, source: source, h: opened(t, 20000), p: &plain{timeout: 20000}, told: map[int64]int{}}
	for range 3000 {
		s.send()
		if source.Intn(100) == 0 {
			s.hear()
		}
	}
	s.checkAll()
	if s.h.Count() < most-20 {
		t.Fatalf("it never was full: %d", s.h.Count())
	}
	s.expire()
	s.checkAll()
}

// P13.5: a packet is told of once, whichever of the three ways comes first.
func TestOnce(t *testing.T) {
	x := api.Sent{Size: 10, At: 20}
	asks := []func(h *History) []api.Sent{
		func(h *History) (l []api.Sent) {
			got, lost := h.Hear([]api.Report{came(0, 9)}, 0)
			for _, a := range got {
				l = append(l, a.Sent)
			}
			return append(l, lost...)
		},
		func(h *History) []api.Sent {
			got, lost := h.Hear([]api.Report{gone(0)}, 0)
			if len(got) != 0 {
				t.Error(got)
			}
			return lost
		},
		func(h *History) []api.Sent { return h.Expire(top) },
	}
	for i, first := range asks {
		for j, second := range asks {
			h := opened(t, timeout)
			checkSend(t, h, 10, 20)
			if l := first(h); !slices.Equal(l, []api.Sent{x}) || h.InFlight() != 0 || h.Count() != 0 {
				t.Errorf("%d: %v, InFlight %d", i, l, h.InFlight())
			}
			if l := second(h); len(l) != 0 || h.InFlight() != 0 || h.Count() != 0 {
				t.Errorf("%d, %d: %v, InFlight %d", i, j, l, h.InFlight())
			}
		}
	}
}

// P13.3: what is handed in is not changed, nor its spare room, and not kept.
func TestHearLeavesList(t *testing.T) {
	h := opened(t, timeout)
	for range 3 {
		checkSend(t, h, 10, 20)
	}
	l := []api.Report{came(2, 9), gone(0), came(0, 8), came(77, 7), came(1, 6)}
	before := slices.Clone(l)
	got, lost := h.Hear(l[:3], 0)
	if !slices.Equal(l, before) {
		t.Errorf("%v, not %v", l, before)
	}
	clear(l)
	if !slices.Equal(got, []api.Acked{{Sent: api.Sent{Seq: 2, Size: 10, At: 20}, Came: 9}}) || !slices.Equal(lost, []api.Sent{{Size: 10, At: 20}}) {
		t.Errorf("%v, %v", got, lost)
	}
	checkState(t, h, 3, 1, 10)
}

// P13.3 and P13.4: what is told is new memory, its spare room too.
func TestNewMemory(t *testing.T) {
	h, other := opened(t, timeout), opened(t, timeout)
	for i := range int64(20) {
		checkSend(t, h, 10, i)
		checkSend(t, other, 10, i)
	}
	l := []api.Report{came(0, 9), gone(1), came(2, 9), gone(3), came(4, 9), gone(5)}
	got, lost := h.Hear(l, 0)
	want, wantLost := other.Hear(l, 0)
	old, wantOld := h.Expire(1010), other.Expire(1010)
	clear(got[:cap(got)])
	clear(lost[:cap(lost)])
	clear(old[:cap(old)])
	if len(want) != 3 || len(wantLost) != 3 || len(wantOld) != 4 || want[2].Seq != 4 || wantLost[2].Seq != 5 || wantOld[3].Seq != 9 {
		t.Errorf("%v, %v, %v", want, wantLost, wantOld)
	}
	for i := range int64(10) {
		checkExpire(t, h, 1011+i, api.Sent{Seq: 10 + i, Size: 10, At: 10 + i})
	}
	checkState(t, h, 20, 0, 0)
}

// P13.1: two histories are nothing to each other.
func TestTwo(t *testing.T) {
	a, b := opened(t, timeout), opened(t, 1)
	checkSend(t, a, 10, 500)
	checkState(t, b, 0, 0, 0)
	checkSend(t, b, 20, 3)
	checkHear(t, b, []api.Report{came(0, 9)}, []api.Acked{{Sent: api.Sent{Size: 20, At: 3}, Came: 9}}, nil)
	checkState(t, a, 1, 1, 10)
	checkState(t, b, 1, 0, 0)
	checkExpire(t, b, top)
	checkExpire(t, a, top, api.Sent{Size: 10, At: 500})
}
