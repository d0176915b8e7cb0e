package feed

import (
	"encoding/binary"
	"fmt"
	"math"
	"math/big"
	"math/rand"
	"slices"
	"strings"
	"testing"

	"flywheel/api"
	"flywheel/ccfb"
	"flywheel/nack"
	"flywheel/rtcp"
	"flywheel/twcc"
)

// The bounds that the chapter's words name, as numbers.
const (
	most    = 4096
	longest = 65536
	maxTime = 1 << 50
)

// part is the bytes of a part of type 205.
func part(count int, body string) string { return partOf(count, 205, body) }

func partOf(count, kind int, body string) string {
	head := []byte{byte(0x80 | count), byte(kind)}
	return string(binary.BigEndian.AppendUint16(head, uint16(len(body)/4))) + body
}

// padded is s, the last part of a message, with four bytes that pad it.
func padded(s string) string {
	b := []byte(s)
	b[0] |= 0x20
	binary.BigEndian.PutUint16(b[2:], binary.BigEndian.Uint16(b[2:])+1)
	return string(b) + "\x00\x00\x00\x04"
}

// block is a source's packets from a number on.
func block(number int, l ...api.Metric) api.Block {
	return api.Block{Ssrc: 0x01020304, First: number, Metrics: l}
}

// firsts is a part of the first kind.
func firsts(stamp uint32, l ...api.Block) string {
	body, e := ccfb.Encode(api.Ccfb{Sender: 9, Blocks: l, Stamp: stamp})
	if e != api.OK {
		panic(e)
	}
	return part(11, body)
}

// seconds is a part of the second kind.
func seconds(number, base int, status []int, deltas ...int) string {
	body, e := twcc.Encode(api.Twcc{Sender: 8, Media: 7, First: number, Base: base, Count: 6, Status: status, Deltas: deltas})
	if e != api.OK {
		panic(e)
	}
	return part(15, body)
}

// lists is a part that asks for packets again.
func lists(lost ...int) string {
	body, e := nack.Encode(api.Nack{Sender: 5, Media: 4, Lost: lost})
	if e != api.OK {
		panic(e)
	}
	return part(1, body)
}

// got is a Metric of a packet that came.
func got(ecn, ago int) api.Metric { return api.Metric{Got: true, Ecn: ecn, Ago: ago} }

// none is n packets that did not come, as Metrics.
func none(n int) []api.Metric { return make([]api.Metric, n) }

// from is n numbers, one behind the other.
func from(number, n int) []int {
	l := make([]int, n)
	for i := range l {
		l[i] = (number + i) % 65536
	}
	return l
}

// came is what is told of a packet that came then.
func came(seq int, at int64) api.Report { return api.Report{Seq: seq, Got: true, At: at} }

// gone is what is told of packets that did not come.
func gone(l ...int) []api.Report {
	var reports []api.Report
	for _, seq := range l {
		reports = append(reports, api.Report{Seq: seq})
	}
	return reports
}

func equal(a, b Feedback) bool {
	return slices.Equal(a.Reports, b.Reports) && slices.Equal(a.Again, b.Again)
}

// shown is f as a text that is not too long to be read.
func shown(f Feedback) string { return fmt.Sprintf("%.600s", fmt.Sprintf("%+v", f)) }

func checkRead(t *testing.T, s string, near int64, want Feedback) {
	t.Helper()
	if f, e := Read(s, near); !equal(f, want) || e != api.OK {
		t.Fatalf("Read(%.200x, %d): %s, %v, not %s", s, near, shown(f), e, shown(want))
	}
}

func checkReports(t *testing.T, s string, near int64, want ...api.Report) {
	t.Helper()
	checkRead(t, s, near, Feedback{Reports: want})
}

func checkWrong(t *testing.T, s string, want api.Errno) {
	t.Helper()
	for _, near := range []int64{0, 1 << 40, math.MinInt64, math.MaxInt64} {
		if f, e := Read(s, near); f.Reports != nil || f.Again != nil || e != want {
			t.Fatalf("Read of %d bytes, %.200x, at %d: %s, %v, not %v", len(s), s, near, shown(f), e, want)
		}
	}
}

// P12.1: a report of the first kind as it goes over the way, byte by byte.
func TestReadFirstBytes(t *testing.T) {
	s := "\x8b\xcd\x00\x07" + "send" +
		"\x00\x00\x00\x01\xff\xfe\x00\x05" + // five packets from 65534 on
		"\x80\x00\xe4\x00\x00\x00\x9f\xfe\xff\xff\x00\x00" +
		"\x00\x02\x00\x00" // two seconds
	checkReports(t, s, 0,
		came(65534, 2000000),
		api.Report{Seq: 65535, Got: true, At: 1000000, Ecn: true},
		api.Report{Seq: 0},
		api.Report{Seq: 1, Got: true, Late: true},
		api.Report{Seq: 2, Got: true, Late: true, Ecn: true})
}

// P12.1: a report of the second kind as it goes over the way, byte by byte.
func TestReadSecondBytes(t *testing.T) {
	s := "\x8f\xcd\x00\x06" + "sendmedi" +
		"\xff\xff\x00\x05\x00\x00\x02\x09" + // five packets from 65535 on, from 128000 ticks on
		"\xd2\x80" + // 1, 0, 2, 2 and 0 in a row
		"\xff\xff\xfe\x00\x03" + // 255, -2, 3
		"\x00"
	checkReports(t, s, 0,
		came(65535, 128000+255*250),
		api.Report{Seq: 0},
		came(1, 128000+253*250),
		came(2, 128000+256*250),
		api.Report{Seq: 3})
}

// P12.1: a list as it goes over the way, byte by byte.
func TestReadListBytes(t *testing.T) {
	s := "\x81\xcd\x00\x04" + "sendmedi" + "\xff\xff\x80\x01" + "\x00\x10\x00\x00"
	checkRead(t, s, 0, Feedback{Again: []int{65535, 0, 15, 16}})
}

// P12.1: of the first kind Ecn is told of 3 alone, Late of 8190 and 8191 alone.
func TestMetrics(t *testing.T) {
	for _, x := range []struct {
		m    api.Metric
		want api.Report
	}{
		{api.Metric{}, api.Report{}},
		{got(0, 0), api.Report{Got: true, At: 10000000}},
		{got(1, 0), api.Report{Got: true, At: 10000000}},
		{got(2, 0), api.Report{Got: true, At: 10000000}},
		{got(3, 0), api.Report{Got: true, At: 10000000, Ecn: true}},
		{got(0, 1), api.Report{Got: true, At: 10000000 - 976}},
		{got(0, 2), api.Report{Got: true, At: 10000000 - 1953}},
		{got(3, 3), api.Report{Got: true, At: 10000000 - 2929, Ecn: true}},
		{got(0, 127), api.Report{Got: true, At: 10000000 - 124023}},
		{got(0, 128), api.Report{Got: true, At: 10000000 - 125000}},
		{got(0, 1024), api.Report{Got: true, At: 9000000}},
		{got(0, 8188), api.Report{Got: true, At: 10000000 - 7996093}},
		{got(1, 8189), api.Report{Got: true, At: 10000000 - 7997070}},
		{got(0, 8190), api.Report{Got: true, Late: true}},
		{got(1, 8190), api.Report{Got: true, Late: true}},
		{got(3, 8190), api.Report{Got: true, Late: true, Ecn: true}},
		{got(0, 8191), api.Report{Got: true, Late: true}},
		{got(2, 8191), api.Report{Got: true, Late: true}},
		{got(3, 8191), api.Report{Got: true, Late: true, Ecn: true}},
	} {
		checkReports(t, firsts(655360, block(0, x.m)), 10000000, x.want)
	}
}

// P12.1: of the first kind At is the time with the Stamp that is nearest to
// near, less what the Metric says.
func TestStamps(t *testing.T) {
	const turn = 65536000000 // ticks behind which a stamp comes again
	for _, x := range []struct {
		stamp    uint32
		near, at int64
	}{
		{0, 0, 0},
		{0, 1, 0},
		{1, 0, 16},
		{2, 0, 31},
		{65536, 0, 1000000},
		{65536, 5000000, 1000000},
		{0, turn, turn},
		{65536, turn, turn + 1000000},
		{1 << 32 * 3 / 4, turn, turn * 3 / 4},
		{1 << 32 * 3 / 4, 0, -turn / 4},
		{1<<32 - 1, 0, -15},
		{1<<32 - 65536, 0, -1000000},
		{1 << 31, 0, turn / 2},
		{1<<31 + 1, 0, -turn/2 + 16},
		{0, turn / 2, turn},
		{0, turn/2 - 1, 0},
		{0, 12*turn + turn/2, 13 * turn},
		{65535, 100 * turn, 100*turn + 999985},
	} {
		s := firsts(x.stamp, block(7, got(0, 0), got(0, 8189)))
		checkReports(t, s, x.near, came(7, x.at), came(8, x.at-7997070))
	}
}

// P12.1: each Block in order, each Metric in order, of each First and its place.
func TestBlocks(t *testing.T) {
	s := firsts(65536*2,
		block(65534, got(0, 0), api.Metric{}, got(3, 1024), got(1, 512)),
		block(3),
		block(65535, api.Metric{}, api.Metric{}, got(0, 256)),
		block(0, got(0, 8191)),
		block(65534, got(0, 2048)))
	checkReports(t, s, 0,
		came(65534, 2000000),
		api.Report{Seq: 65535},
		api.Report{Seq: 0, Got: true, At: 1000000, Ecn: true},
		came(1, 1500000),
		api.Report{Seq: 65535},
		api.Report{Seq: 0},
		came(1, 1750000),
		api.Report{Seq: 0, Got: true, Late: true},
		came(65534, 0))
	checkReports(t, firsts(0, block(62000, none(most)...)), 0, gone(from(62000, most)...)...)
}

// P12.1: a report of the first kind may tell of no packet; it is of a kind.
func TestNoBlocks(t *testing.T) {
	checkRead(t, firsts(0), 0, Feedback{})
	checkRead(t, firsts(5, block(1), block(2)), 0, Feedback{})
	if f, _ := Read(firsts(0)+lists(1), 0); f.Reports != nil || len(f.Again) != 1 {
		t.Errorf("no packet and one again: %+v", f)
	}
}

// P12.1: of the second kind At is 64000 times Base and all Deltas up to its own.
func TestDeltas(t *testing.T) {
	checkReports(t, seconds(0, 0, []int{1}, 0), 0, came(0, 0))
	checkReports(t, seconds(0, 0, []int{1}, 255), 0, came(0, 63750))
	checkReports(t, seconds(0, 0, []int{2}, -1), 0, came(0, -250))
	checkReports(t, seconds(0, 0, []int{2}, -32768), 0, came(0, -8192000))
	checkReports(t, seconds(0, 0, []int{2}, 32767), 0, came(0, 8191750))
	checkReports(t, seconds(9, 1, []int{1}, 1), 0, came(9, 64250))
	checkReports(t, seconds(9, -1, []int{1}, 1), 0, came(9, -63750))
	checkReports(t, seconds(9, 5, []int{0}), 0, api.Report{Seq: 9})
	checkReports(t, seconds(65533, 100, []int{0, 1, 1, 0, 0, 2, 2, 1, 0}, 3, 0, -5, 1000, 9), 0,
		api.Report{Seq: 65533},
		came(65534, 6400000+750),
		came(65535, 6400000+750),
		api.Report{Seq: 0},
		api.Report{Seq: 1},
		came(2, 6400000-500),
		came(3, 6400000+249500),
		came(4, 6400000+251750),
		api.Report{Seq: 5})
}

// P12.1: the sum of Deltas goes as far as they do.
func TestDeltasFar(t *testing.T) {
	for _, delta := range []int{-32768, 32767} {
		status, deltas := slices.Repeat([]int{2}, most), slices.Repeat([]int{delta}, most)
		var want []api.Report
		for i := range most {
			want = append(want, came((65000+i)%65536, 640000+int64(i+1)*int64(delta)*250))
		}
		checkReports(t, seconds(65000, 10, status, deltas...), 0, want...)
	}
}

// P12.1: Base is the number with these lower 24 bits that is nearest to near.
func TestBases(t *testing.T) {
	const turn = 1 << 24
	for _, x := range []struct {
		base    int
		near    int64
		nearest int64
	}{
		{0, 0, 0},
		{5, 0, 5},
		{-5, 0, -5},
		{1<<23 - 1, 0, 1<<23 - 1},
		{-1 << 23, 0, 1 << 23},
		{-1 << 23, 63999, 1 << 23},
		{-1 << 23, 64000, 1 << 23},
		{-1<<23 + 1, 0, -1<<23 + 1},
		{-1<<23 + 1, 63999, -1<<23 + 1},
		{-1<<23 + 1, 64000, 1<<23 + 1},
		{-5, 64000 * turn, turn - 5},
		{5, 64000 * turn, turn + 5},
		{0, 64000*(turn/2) - 1, 0},
		{0, 64000 * (turn / 2), turn},
		{0, 64000 * (turn/2 + 1), turn},
		{0, 64000 * (7*turn + turn/2), 8 * turn},
		{0, 64000*(7*turn+turn/2) - 1, 7 * turn},
		{17, 64000 * (100*turn - 3), 100*turn + 17},
	} {
		s := seconds(3, x.base, []int{1, 2}, 0, -7)
		checkReports(t, s, x.near, came(3, x.nearest*64000), came(4, x.nearest*64000-1750))
	}
}

// P12.1: near is held between 0 and MaxTime.
func TestNear(t *testing.T) {
	s := firsts(1<<31, block(1, got(0, 0))) + seconds(2, -1<<23, []int{1}, 0) +
		firsts(1<<31+1, block(3, got(0, 0))) + seconds(4, -1<<23+1, []int{1}, 0) +
		firsts(0, block(5, got(0, 0))) + seconds(6, 0, []int{1}, 0)
	low, e := Read(s, 0)
	if e != api.OK {
		t.Fatal(e)
	}
	for _, near := range []int64{-1, -16, -64000, -1 << 40, -maxTime, -maxTime - 1, math.MinInt64} {
		checkRead(t, s, near, low)
	}
	high, e := Read(s, maxTime)
	if e != api.OK {
		t.Fatal(e)
	}
	for _, near := range []int64{maxTime + 1, maxTime + 64000, maxTime + 1<<37, 1 << 60, math.MaxInt64} {
		checkRead(t, s, near, high)
	}
	for _, r := range high.Reports {
		if r.At < maxTime-1<<40 || r.At > maxTime+1<<40 {
			t.Errorf("with near at its greatest: %+v", r)
		}
	}
	checkReports(t, firsts(1<<31, block(1, got(0, 0))), math.MinInt64, came(1, 32768000000))
	checkReports(t, seconds(1, -1<<23, []int{1}, 0), math.MinInt64, came(1, 64000<<23))
}

// P12.1: beyond MaxTime near is MaxTime, also where a Base is just half the way
// round from it.
func TestNearBound(t *testing.T) {
	for _, number := range []int64{maxTime / 64000, maxTime/64000 + 1} {
		// The Base that is half the way round from number.
		base := int(number+1<<23) & (1<<24 - 1)
		s := seconds(1, base-base>>23<<24, []int{1}, 0)
		for _, near := range []int64{maxTime - 1, maxTime, maxTime + 1, maxTime + 64000} {
			checkReports(t, s, near, came(1, plainBase(int64(base), near)*64000))
		}
	}
	if plainBase(0, maxTime) != plainBase(0, maxTime+1<<45) {
		t.Error("plainBase does not hold near")
	}
}

// P12.1: Again is all that is asked for again, in order, as often as it is.
func TestAgain(t *testing.T) {
	checkRead(t, lists(0), 0, Feedback{Again: []int{0}})
	checkRead(t, lists(65535, 0, 9), 5, Feedback{Again: []int{65535, 0, 9}})
	checkRead(t, lists(3, 9)+lists(3, 9), 5, Feedback{Again: []int{3, 9, 3, 9}})
	checkRead(t, lists(7)+lists(5)+lists(6, 8), 5, Feedback{Again: []int{7, 5, 6, 8}})
	checkRead(t, lists(from(65000, 4000)...), 0, Feedback{Again: from(65000, 4000)})
}

// P12.1: what is told stands in the order of the parts, each list for itself.
func TestOrder(t *testing.T) {
	a, b, c := firsts(65536, block(1, got(0, 0))), seconds(2, 1, []int{1}, 4), lists(3)
	x, y := came(1, 1000000), came(2, 65000)
	for _, m := range []struct {
		s       string
		reports []api.Report
	}{
		{a + b + c, []api.Report{x, y}}, {a + c + b, []api.Report{x, y}}, {c + a + b, []api.Report{x, y}},
		{b + a + c, []api.Report{y, x}}, {b + c + a, []api.Report{y, x}}, {c + b + a, []api.Report{y, x}},
		{a + a + c + b, []api.Report{x, x, y}}, {a + b + c + a, []api.Report{x, y, x}},
	} {
		checkRead(t, m.s, 0, Feedback{m.reports, []int{3}})
	}
	checkRead(t, c+a+c+b+c, 0, Feedback{[]api.Report{x, y}, []int{3, 3, 3}})
}

// P12.1: parts of no kind tell nothing, whatever they have; alone they are ErrFeed.
func TestOtherParts(t *testing.T) {
	told := Feedback{Again: []int{3}}
	bodies := []string{"", "\xff\xff\xff\xff", firsts(0, block(1, got(0, 0)))[4:], seconds(1, 1, []int{1}, 1)[4:], lists(9)[4:]}
	for kind := 192; kind <= 223; kind++ {
		for count := range 32 {
			if kind == 205 && (count == 11 || count == 15 || count == 1) {
				continue
			}
			for _, body := range bodies {
				s := partOf(count, kind, body)
				checkWrong(t, s, api.ErrFeed)
				checkRead(t, s+lists(3), 0, told)
				checkRead(t, lists(3)+s, 0, told)
			}
		}
	}
}

// P12.1: a part is of a kind by its type and its Count, not by what it has.
func TestKindsByCount(t *testing.T) {
	for _, x := range []struct {
		count int
		body  string
		want  api.Errno
	}{
		{1, firsts(0)[4:], api.ErrShort},
		{1, "sendmediMMMMHHHH", api.ErrList},
		{11, lists(1)[4:], api.ErrShort},
		{15, lists(1)[4:], api.ErrShort},
		{15, firsts(0, block(0, none(4)...))[4:], api.ErrChunk},
		{11, seconds(0, 0, []int{1}, 0)[4:], api.ErrPad},
	} {
		checkWrong(t, part(x.count, x.body), x.want)
	}
}

// P12.1: the error of rtcp.Split is told ahead of all others.
func TestSplitErrors(t *testing.T) {
	bad := part(11, "")
	good := lists(1)
	for _, x := range []struct {
		s    string
		want api.Errno
	}{
		{"", api.ErrShort},
		{"\x8b", api.ErrShort},
		{"\x8b\xcd\x00", api.ErrShort},
		{"\x8b\xcd\x00\x01", api.ErrShort},
		{good[:len(good)-1], api.ErrShort},
		{good + "\x81\xcd\x00", api.ErrShort},
		{bad + "\x81\xcd\x00\x01abc", api.ErrShort},
		{"\x41\xcd\x00\x00", api.ErrMark},
		{bad + "\x41\xcd\x00\x00", api.ErrMark},
		{good + "\xc1\xcd\x00\x00", api.ErrMark},
		{"\x8b\xbf\x00\x00", api.ErrKind},
		{"\x8b\xe0\x00\x00", api.ErrKind},
		{bad + "\x8b\xe0\x00\x00", api.ErrKind},
		{padded(good) + good, api.ErrPad},
		{padded(bad) + good, api.ErrPad},
		{bad + "\xa1\xcd\x00\x00", api.ErrPad},
		{good + "\xa1\xcd\x00\x01\x00\x00\x00\x03", api.ErrPad},
		{strings.Repeat("x", longest+1), api.ErrLong},
		{bad + partOf(0, 200, strings.Repeat("x", longest-8)) + "x", api.ErrLong},
	} {
		checkWrong(t, x.s, x.want)
	}
}

// P12.1: a message may have as many bytes as Split takes, and what pads it is
// not of what a part has.
func TestLongAndPadded(t *testing.T) {
	told := Feedback{Again: []int{1}}
	s := lists(1)
	checkRead(t, s+partOf(0, 200, strings.Repeat("x", longest-4-len(s))), 0, told)
	checkRead(t, padded(s), 0, told)
	checkRead(t, s+padded(part(2, "abcd")), 0, told)
	checkReports(t, padded(firsts(65536, block(1, got(0, 0)))), 0, came(1, 1000000))
	checkReports(t, padded(seconds(1, 1, []int{1}, 0)), 0, came(1, 64000))
	checkWrong(t, padded(part(1, "")), api.ErrShort)
}

// wrong is a part that is refused, and why.
type wrong struct {
	s string
	e api.Errno
}

// wrongs is parts of all kinds that their own Decode refuses.
func wrongs() []wrong {
	a, b := firsts(7, block(1, got(0, 0), got(1, 1), got(2, 2)))[4:], seconds(0, 0, []int{1, 1}, 1, 1)[4:]
	return []wrong{
		{part(11, ""), api.ErrShort},
		{part(11, "abcd"), api.ErrShort},
		{part(11, a[:len(a)-4]), api.ErrShort},
		{part(11, strings.Repeat("\x00", 4+17*8+4)), api.ErrMany},
		{part(11, "send\x00\x00\x00\x01\x00\x00\x10\x01stmp"), api.ErrMany},
		{part(11, "send\x00\x00\x00\x01\x00\x00\x00\x01\x00\x01\x00\x00stmp"), api.ErrMark},
		{part(11, "send\x00\x00\x00\x01\x00\x00\x00\x01\x80\x01\x00\x01stmp"), api.ErrPad},
		{part(15, ""), api.ErrShort},
		{part(15, b[:12]), api.ErrShort},
		{part(15, b[:16]), api.ErrShort},
		{part(15, "sendmedi\x00\x00\x00\x00\x00\x00\x00\x00"), api.ErrCount},
		{part(15, "sendmedi\x00\x00\x10\x01\x00\x00\x00\x00"), api.ErrMany},
		{part(15, "sendmedi\x00\x00\x00\x01\x00\x00\x00\x00\x60\x01\x00\x00"), api.ErrChunk},
		{part(15, "sendmedi\x00\x00\x00\x01\x00\x00\x00\x00\x00\x01\x00\x01"), api.ErrPad},
		{part(1, ""), api.ErrShort},
		{part(1, "sendmedi"), api.ErrShort},
		{part(1, "sendmedi\x00\x05\x00\x00\x00\x05\x00\x00"), api.ErrList},
	}
}

// P12.1: a part of a kind that is refused is told, wherever it stands.
func TestRefused(t *testing.T) {
	others := []string{lists(1), firsts(65536, block(1, got(0, 0))), seconds(2, 1, []int{1}, 4), part(3, "abcd"), partOf(11, 206, "")}
	for _, w := range wrongs() {
		checkWrong(t, w.s, w.e)
		for _, o := range others {
			checkWrong(t, o+w.s, w.e)
			checkWrong(t, w.s+o, w.e)
			checkWrong(t, o+w.s+o, w.e)
		}
	}
}

// P12.1: of several parts that are refused the first one is told.
func TestRefusedFirst(t *testing.T) {
	for _, a := range wrongs() {
		for _, b := range wrongs() {
			checkWrong(t, a.s+b.s, a.e)
			checkWrong(t, lists(1)+a.s+lists(2)+b.s, a.e)
			checkWrong(t, partOf(0, 200, "")+a.s+b.s, a.e)
		}
	}
}

// P12.1: all parts together tell of at most MaxReports packets, whatever kinds
// they are of.
func TestManyReports(t *testing.T) {
	a := func(n int) string { return firsts(0, block(0, none(n)...)) }
	b := func(n int) string { return seconds(0, 0, make([]int, n)) }
	for _, make := range []func(int) string{a, b} {
		checkReports(t, make(most), 0, gone(from(0, most)...)...)
		for _, other := range []func(int) string{a, b} {
			for _, n := range []int{1, 2, 2048, 4095} {
				checkReports(t, make(most-n)+other(n), 0, append(gone(from(0, most-n)...), gone(from(0, n)...)...)...)
				checkWrong(t, make(most-n)+other(n+1), api.ErrMany)
				checkWrong(t, make(most-n+1)+lists(1)+other(n), api.ErrMany)
			}
			checkWrong(t, make(most)+other(1), api.ErrMany)
			checkWrong(t, other(1)+make(most), api.ErrMany)
			checkWrong(t, make(most)+other(most), api.ErrMany)
			checkWrong(t, make(2000)+other(2000)+make(97), api.ErrMany)
			checkReports(t, make(2000)+other(2000)+make(96), 0, append(append(gone(from(0, 2000)...), gone(from(0, 2000)...)...), gone(from(0, 96)...)...)...)
		}
	}
	checkWrong(t, firsts(0, block(0, none(most)...), block(0, none(1)...)), api.ErrMany)
	checkReports(t, firsts(0, block(0, none(most-1)...), block(9, none(1)...)), 0, append(gone(from(0, most-1)...), gone(9)...)...)
	checkReports(t, firsts(0, block(0, none(most)...), block(9)), 0, gone(from(0, most)...)...)
}

// P12.1: at most MaxReports are asked for again; they and the Reports do not
// count together.
func TestManyAgain(t *testing.T) {
	for _, n := range []int{1, 2, 2048, 4095} {
		checkRead(t, lists(from(0, most-n)...)+lists(from(7, n)...), 0, Feedback{Again: append(from(0, most-n), from(7, n)...)})
		checkWrong(t, lists(from(0, most-n)...)+lists(from(7, n+1)...), api.ErrMany)
	}
	all := lists(from(0, most)...)
	checkWrong(t, all+lists(9), api.ErrMany)
	checkWrong(t, lists(0)+all, api.ErrMany)
	checkWrong(t, all+all, api.ErrMany)
	checkWrong(t, firsts(0, block(0, got(0, 0)))+all+lists(9), api.ErrMany)
	full := Feedback{gone(from(0, most)...), from(0, most)}
	checkRead(t, all+seconds(0, 0, make([]int, most)), 0, full)
	checkRead(t, firsts(0, block(0, none(most)...))+all, 0, full)
	checkWrong(t, firsts(0, block(0, none(most)...))+all+seconds(0, 0, []int{0}), api.ErrMany)
	checkWrong(t, firsts(0, block(0, none(most)...))+all+lists(1), api.ErrMany)
}

// P12.1: a part that is refused is told ahead of how many there are, also where
// it stands behind them.
func TestRefusedAheadOfMany(t *testing.T) {
	for _, many := range []string{
		strings.Repeat(seconds(0, 0, make([]int, most)), 2),
		lists(from(0, most)...) + lists(1),
		firsts(0, block(0, none(most)...), block(0, none(1)...)),
	} {
		for _, w := range wrongs() {
			checkWrong(t, many+w.s, w.e)
			checkWrong(t, many+lists(1)+w.s, w.e)
			checkWrong(t, w.s+many, w.e)
		}
	}
}

// P12.1: a message full of parts that tell of as many packets as may be.
func TestManyParts(t *testing.T) {
	one := seconds(0, 0, make([]int, most))
	n := longest/len(one) - 1
	s := strings.Repeat(one, n)
	if f, e := Read(s, 0); !equal(f, Feedback{}) || e != api.ErrMany {
		t.Fatalf("%d parts: %v", n, e)
	}
	if f, e := Read(s+part(1, ""), 0); !equal(f, Feedback{}) || e != api.ErrShort {
		t.Fatalf("%d parts and one that is refused: %v", n, e)
	}
	empty := strings.Repeat(part(2, ""), longest/4)
	checkWrong(t, empty, api.ErrFeed)
	checkRead(t, empty[:longest-len(lists(1))]+lists(1), 0, Feedback{Again: []int{1}})
}

// held is near within the chapter's bounds.
func held(near int64) int64 {
	if near < 0 {
		return 0
	}
	if near > maxTime {
		return maxTime
	}
	return near
}

// plainNearest is the number nearest to about that is v and so many turns.
func plainNearest(about, v, turn *big.Int) *big.Int {
	k := new(big.Int).Div(new(big.Int).Sub(about, v), turn) // rounded down
	low := new(big.Int).Add(v, new(big.Int).Mul(k, turn))
	high := new(big.Int).Add(low, turn)
	below, above := new(big.Int).Sub(about, low), new(big.Int).Sub(high, about)
	if below.Cmp(above) < 0 {
		return low
	}
	return high
}

// plainStamp is the time with this stamp, in numbers without bound.
func plainStamp(stamp uint32, near int64) int64 {
	about := new(big.Int).Mul(big.NewInt(held(near)), big.NewInt(65536))
	about.Div(about, big.NewInt(1000000))
	n := plainNearest(about, big.NewInt(int64(stamp)), big.NewInt(1<<32))
	n.Mul(n.Neg(n), big.NewInt(1000000))
	n.Div(n, big.NewInt(65536)) // of -n rounded down: of n up
	return -n.Int64()
}

// plainBase is Base as it does not go round, in numbers without bound.
func plainBase(base, near int64) int64 {
	about := big.NewInt(held(near) / 64000)
	return plainNearest(about, big.NewInt(base), big.NewInt(1<<24)).Int64()
}

// plain is what a message tells, read once more from the chapter's words.
func plain(s string, near int64) (f Feedback, e api.Errno) {
	parts, e := rtcp.Split(s)
	if e != api.OK {
		return Feedback{}, e
	}
	kinds := 0
	for _, p := range parts {
		switch [2]int{p.Type, p.Count} {
		case [2]int{205, 11}:
			r, e := ccfb.Decode(p.Body)
			if e != api.OK {
				return Feedback{}, e
			}
			f.Reports = append(f.Reports, plainFirst(r, near)...)
		case [2]int{205, 15}:
			r, e := twcc.Decode(p.Body)
			if e != api.OK {
				return Feedback{}, e
			}
			f.Reports = append(f.Reports, plainSecond(r, near)...)
		case [2]int{205, 1}:
			r, e := nack.Decode(p.Body)
			if e != api.OK {
				return Feedback{}, e
			}
			f.Again = append(f.Again, r.Lost...)
		default:
			kinds--
		}
		kinds++
	}
	if kinds == 0 {
		return Feedback{}, api.ErrFeed
	}
	if len(f.Reports) > most || len(f.Again) > most {
		return Feedback{}, api.ErrMany
	}
	return f, api.OK
}

func plainFirst(r api.Ccfb, near int64) (l []api.Report) {
	for _, b := range r.Blocks {
		for i, m := range b.Metrics {
			t := api.Report{Seq: (b.First + i) % 65536, Got: m.Got}
			if m.Got && m.Ago < 8190 {
				t.At = plainStamp(r.Stamp, near) - int64(m.Ago)*1000000/1024
			}
			t.Late = m.Got && m.Ago > 8189
			t.Ecn = m.Got && m.Ecn == 3
			l = append(l, t)
		}
	}
	return l
}

func plainSecond(r api.Twcc, near int64) (l []api.Report) {
	for i, status := range r.Status {
		t := api.Report{Seq: (r.First + i) % 65536}
		if status == 1 || status == 2 {
			t.Got = true
			n, sum := 0, 0
			for _, x := range r.Status[:i+1] {
				n += min(x, 1)
			}
			for _, d := range r.Deltas[:n] {
				sum += d
			}
			t.At = 64000*plainBase(int64(r.Base), near) + 250*int64(sum)
		}
		l = append(l, t)
	}
	return l
}

// some is a part of any kind, or of none, by chance.
func some(source *rand.Rand) string {
	switch source.Intn(5) {
	case 0, 1:
		var blocks []api.Block
		for range source.Intn(4) {
			blocks = append(blocks, block(source.Intn(65536), someMetrics(source)...))
		}
		return firsts(source.Uint32(), blocks...)
	case 2:
		status, deltas := someStatus(source)
		return seconds(source.Intn(65536), source.Intn(1<<24)-1<<23, status, deltas...)
	case 3:
		return lists(from(source.Intn(65536), 1+source.Intn(20))...)
	}
	return partOf(source.Intn(32), 192+source.Intn(13), strings.Repeat("wxyz", source.Intn(5)))
}

func someMetrics(source *rand.Rand) []api.Metric {
	l := none(source.Intn(20))
	for i := range l {
		if source.Intn(3) > 0 {
			l[i] = got(source.Intn(4), source.Intn(8192))
		}
		if source.Intn(9) == 0 {
			l[i] = got(source.Intn(4), 8188+source.Intn(4))
		}
	}
	return l
}

func someStatus(source *rand.Rand) (status, deltas []int) {
	for range 1 + source.Intn(40) {
		s := source.Intn(3)
		status = append(status, s)
		switch s {
		case 1:
			deltas = append(deltas, source.Intn(256))
		case 2:
			deltas = append(deltas, source.Intn(65536)-32768)
		}
	}
	return status, deltas
}

// someNear is a time of any size.
func someNear(source *rand.Rand) int64 {
	n := int64(source.Uint64()) >> source.Intn(64)
	switch source.Intn(4) {
	case 0:
		return maxTime + n>>20
	case 1:
		return 64000*(1<<23*source.Int63n(1000)) + source.Int63n(3) - 1
	case 2:
		return 32768000000*source.Int63n(1000) + source.Int63n(33) - 16
	}
	return n
}

// someMessage is parts by chance, one at least.
func someMessage(source *rand.Rand) string {
	s := some(source)
	for range source.Intn(5) {
		s += some(source)
	}
	return s
}

func checkPlain(t *testing.T, s string, near int64) api.Errno {
	t.Helper()
	want, wrong := plain(s, near)
	f, e := Read(s, near)
	if !equal(f, want) || e != wrong {
		t.Fatalf("Read(%.300x, %d): %s, %v, not %s, %v", s, near, shown(f), e, shown(want), wrong)
	}
	return e
}

// P12.1: messages by chance against a plain reading of the chapter.
func TestExact(t *testing.T) {
	source := rand.New(rand.NewSource(12))
	for range 20000 {
		checkPlain(t, someMessage(source), someNear(source))
	}
}

// P12.1: messages of which some bytes are others, or lack.
func TestAny(t *testing.T) {
	source := rand.New(rand.NewSource(121))
	seen := map[api.Errno]int{}
	for range 60000 {
		b := []byte(someMessage(source))
		for range 1 + source.Intn(3) {
			b[source.Intn(len(b))] ^= 1 << source.Intn(8)
		}
		if source.Intn(8) == 0 {
			b = b[:source.Intn(len(b)+1)]
		}
		seen[checkPlain(t, string(b), someNear(source))]++
	}
	for _, e := range []api.Errno{api.OK, api.ErrMany, api.ErrShort, api.ErrMark, api.ErrKind, api.ErrCount, api.ErrPad, api.ErrChunk, api.ErrFeed} {
		if seen[e] == 0 {
			t.Errorf("%v was never told: %v", e, seen)
		}
	}
}

// P12.1: bytes by chance.
func TestNoise(t *testing.T) {
	source := rand.New(rand.NewSource(122))
	for range 20000 {
		b := make([]byte, source.Intn(60))
		source.Read(b)
		checkPlain(t, string(b), int64(source.Uint64()))
		checkPlain(t, part([]int{1, 11, 15}[source.Intn(3)], string(b[:len(b)/4*4])), int64(source.Uint64()))
	}
}

// P12.2: what parts tell together is what each tells alone, one behind the other.
func TestParts(t *testing.T) {
	source := rand.New(rand.NewSource(123))
	for range 5000 {
		near := someNear(source)
		var s string
		var want Feedback
		known := false
		for range 1 + source.Intn(6) {
			p := some(source)
			f, e := Read(p, near)
			if e != api.OK && e != api.ErrFeed {
				t.Fatalf("Read(%.300x, %d): %v", p, near, e)
			}
			known = known || e == api.OK
			s += p
			want.Reports = append(want.Reports, f.Reports...)
			want.Again = append(want.Again, f.Again...)
		}
		if !known {
			checkWrong(t, s, api.ErrFeed)
			continue
		}
		checkRead(t, s, near, want)
	}
}

// P12.2: the times of one part do not hang on those of the one ahead of it.
func TestPartsTimes(t *testing.T) {
	early := seconds(1, 0, []int{1, 2}, 200, -30000)
	late := seconds(3, 1<<23-1, []int{2}, 30000)
	stamped := firsts(1<<31, block(4, got(0, 8189)))
	for _, x := range []struct {
		s    string
		want []api.Report
	}{
		{early, []api.Report{came(1, 50000), came(2, -7450000)}},
		{late, []api.Report{came(3, 64000*(1<<23-1)+7500000)}},
		{stamped, []api.Report{came(4, 32768000000-7997070)}},
	} {
		checkReports(t, x.s, 0, x.want...)
		for _, ahead := range []string{early, late, stamped} {
			f, _ := Read(ahead, 0)
			checkReports(t, ahead+x.s, 0, append(f.Reports, x.want...)...)
		}
	}
}

// P12.1: what is told is new memory, the spare room of each list, too.
func TestNew(t *testing.T) {
	s := firsts(65536, block(1, got(0, 0), got(3, 1))) + lists(5, 6, 7) + seconds(2, 1, []int{1, 0, 2}, 4, 5) + lists(8)
	f, _ := Read(s, 0)
	want, _ := Read(s, 0)
	g, _ := Read(s, 0)
	clear(f.Reports[:cap(f.Reports)])
	clear(f.Again[:cap(f.Again)])
	if !equal(g, want) {
		t.Errorf("two answers share memory: %s", shown(g))
	}
	_ = append(g.Reports[:1], make([]api.Report, cap(g.Reports)-1)...)
	if !slices.Equal(g.Again, want.Again) {
		t.Errorf("two lists share memory: %s", shown(g))
	}
	checkRead(t, s, 0, want)
}

// P12.1: an answer hangs on what was handed in alone.
func TestKeepsNothing(t *testing.T) {
	source := rand.New(rand.NewSource(124))
	var messages []string
	var nears []int64
	var answers []Feedback
	for range 200 {
		s, near := someMessage(source), someNear(source)
		f, _ := Read(s, near)
		messages, nears, answers = append(messages, s), append(nears, near), append(answers, f)
	}
	for _, i := range source.Perm(len(messages)) {
		if f, _ := Read(messages[i], nears[i]); !equal(f, answers[i]) {
			t.Fatalf("asked again: %s, not %s", shown(f), shown(answers[i]))
		}
	}
}
