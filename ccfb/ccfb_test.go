package ccfb

import (
	"encoding/binary"
	"fmt"
	"math"
	"math/rand"
	"slices"
	"strings"
	"testing"

	"flywheel/api"
)

// The bounds that a body and a report have, as the chapter's numbers.
const (
	longest     = 65536
	mostBlocks  = 16
	mostMetrics = 4096
)

// head is a Block's first 8 bytes.
func head(ssrc uint32, first, count int) string {
	b := binary.BigEndian.AppendUint32(nil, ssrc)
	b = binary.BigEndian.AppendUint16(b, uint16(first))
	return string(binary.BigEndian.AppendUint16(b, uint16(count)))
}

// pieces is each number as two bytes.
func pieces(l ...int) string {
	var b []byte
	for _, n := range l {
		b = binary.BigEndian.AppendUint16(b, uint16(n))
	}
	return string(b)
}

// got is a Metric of a packet that came.
func got(ecn, ago int) api.Metric { return api.Metric{Got: true, Ecn: ecn, Ago: ago} }

// mixed is n Metrics of all sorts: no two neighbours are alike.
func mixed(n int) []api.Metric {
	l := make([]api.Metric, n)
	for i := range l {
		if i%3 != 1 {
			l[i] = got(i%4, i*37%8192)
		}
	}
	return l
}

// mixedBytes is what mixed(n) is in a body, filled up.
func mixedBytes(n int) string {
	var b []byte
	for i := range n {
		v := 0
		if i%3 != 1 {
			v = 1<<15 + i%4<<13 + i*37%8192
		}
		b = append(b, byte(v>>8), byte(v))
	}
	if n%2 == 1 {
		b = append(b, 0, 0)
	}
	return string(b)
}

type pair struct {
	r api.Ccfb
	s string
}

// one is a report of one Block with these Metrics, between known bytes.
func one(l ...api.Metric) api.Ccfb {
	return api.Ccfb{Sender: 0x73656e64, Stamp: 0x74696d65, Blocks: []api.Block{{Ssrc: 0x73737263, First: 258, Metrics: l}}}
}

// oneBody is the body of one with so many Metrics, which are these bytes.
func oneBody(count int, metrics string) string {
	return "send" + "ssrc\x01\x02" + pieces(count) + metrics + "time"
}

// pairs are reports and their bodies, written out by hand.
func pairs() []pair {
	return []pair{
		{api.Ccfb{}, "\x00\x00\x00\x00\x00\x00\x00\x00"},
		{api.Ccfb{Sender: 0x01020304, Stamp: 0xfffefdfc}, "\x01\x02\x03\x04\xff\xfe\xfd\xfc"},
		{api.Ccfb{Sender: math.MaxUint32, Stamp: 1 << 31}, "\xff\xff\xff\xff\x80\x00\x00\x00"},
		{one(), oneBody(0, "")},
		{one(api.Metric{}), oneBody(1, "\x00\x00\x00\x00")},
		{one(api.Metric{}, api.Metric{}), oneBody(2, "\x00\x00\x00\x00")},
		{one(got(0, 0)), oneBody(1, "\x80\x00\x00\x00")},
		{one(got(3, 8191)), oneBody(1, "\xff\xff\x00\x00")},
		{one(got(3, 8191), got(3, 8191)), oneBody(2, "\xff\xff\xff\xff")},
		{one(got(1, 0), got(2, 0)), oneBody(2, "\xa0\x00\xc0\x00")},
		{one(got(0, 1), got(0, 4096), got(0, 255)), oneBody(3, "\x80\x01\x90\x00\x80\xff\x00\x00")},
		{one(got(0, 256), api.Metric{}, got(0, 8190)), oneBody(3, "\x81\x00\x00\x00\x9f\xfe\x00\x00")},
		{one(api.Metric{}, got(2, 0x1234), api.Metric{}, got(1, 8191)), oneBody(4, "\x00\x00\xd2\x34\x00\x00\xbf\xff")},
		{
			api.Ccfb{Blocks: []api.Block{{}, {Ssrc: math.MaxUint32, First: 65535}, {}}},
			"\x00\x00\x00\x00" + "\x00\x00\x00\x00\x00\x00\x00\x00" + "\xff\xff\xff\xff\xff\xff\x00\x00" + "\x00\x00\x00\x00\x00\x00\x00\x00" + "\x00\x00\x00\x00",
		},
		{
			api.Ccfb{Sender: 1, Stamp: 2, Blocks: []api.Block{
				{Ssrc: 3, First: 65535, Metrics: []api.Metric{got(1, 2)}},
				{Ssrc: 4},
				{Ssrc: 5, First: 1, Metrics: []api.Metric{{}, got(3, 4)}},
				{Ssrc: 6, First: 32768, Metrics: []api.Metric{got(0, 5), {}, {}}},
			}},
			"\x00\x00\x00\x01" +
				"\x00\x00\x00\x03\xff\xff\x00\x01\xa0\x02\x00\x00" +
				"\x00\x00\x00\x04\x00\x00\x00\x00" +
				"\x00\x00\x00\x05\x00\x01\x00\x02\x00\x00\xe0\x04" +
				"\x00\x00\x00\x06\x80\x00\x00\x03\x80\x05\x00\x00\x00\x00\x00\x00" +
				"\x00\x00\x00\x02",
		},
		{one(mixed(255)...), oneBody(255, mixedBytes(255))},
		{one(mixed(256)...), oneBody(256, mixedBytes(256))},
		{one(mixed(mostMetrics - 1)...), oneBody(mostMetrics-1, mixedBytes(mostMetrics-1))},
		{one(mixed(mostMetrics)...), oneBody(mostMetrics, mixedBytes(mostMetrics))},
		{api.Ccfb{Blocks: make([]api.Block, mostBlocks)}, strings.Repeat("\x00", 8+8*mostBlocks)},
	}
}

// filled is a report of Blocks with so many Metrics each, and its body.
func filled(counts ...int) pair {
	x := pair{api.Ccfb{Sender: 0x73656e64, Stamp: 0x74696d65}, "send"}
	for i, n := range counts {
		x.r.Blocks = append(x.r.Blocks, api.Block{Ssrc: uint32(i), First: i, Metrics: mixed(n)})
		x.s += head(uint32(i), i, n) + mixedBytes(n)
	}
	x.s += "time"
	return x
}

// fullCounts are how many Metrics reports have whose bodies have just MaxPacket
// bytes: an even last one and an odd one, as few Blocks as there may be and as many.
var fullCounts = [][]int{
	{4096, 4096, 4096, 4096, 4096, 4096, 4096, 4060},
	{4096, 4096, 4096, 4096, 4096, 4096, 4096, 4059},
	{4095, 4060, 4096, 4095, 4096, 4095, 4096, 4096},
	{0, 0, 0, 0, 4096, 4096, 4096, 4096, 4096, 4096, 4096, 0, 0, 0, 4028, 0},
	{4096, 4096, 4096, 4096, 4096, 4096, 4096, 4012, 1, 2, 1, 2, 1, 2, 1, 2},
}

// equal is whether a and b are one report; nil and empty lists are one.
func equal(a, b api.Ccfb) bool {
	return a.Sender == b.Sender && a.Stamp == b.Stamp && slices.EqualFunc(a.Blocks, b.Blocks, func(x, y api.Block) bool {
		return x.Ssrc == y.Ssrc && x.First == y.First && slices.Equal(x.Metrics, y.Metrics)
	})
}

// shown is r as a text that is not too long to be read.
func shown(r api.Ccfb) string { return fmt.Sprintf("%.400s", fmt.Sprintf("%+v", r)) }

func checkEncode(t *testing.T, r api.Ccfb, want string) {
	t.Helper()
	if !Good(r) {
		t.Fatalf("Good(%s): false", shown(r))
	}
	if s, e := Encode(r); s != want || e != api.OK {
		t.Fatalf("Encode(%s): %.300x, %v, not %.300x", shown(r), s, e, want)
	}
}

// checkBad is for what is no report.
func checkBad(t *testing.T, r api.Ccfb) {
	t.Helper()
	if Good(r) {
		t.Fatalf("Good(%s): true", shown(r))
	}
	if s, e := Encode(r); s != "" || e != api.ErrArg {
		t.Fatalf("Encode(%s): %.300x, %v", shown(r), s, e)
	}
}

// checkTooLong is for a report whose body would be too long.
func checkTooLong(t *testing.T, r api.Ccfb) {
	t.Helper()
	if !Good(r) {
		t.Fatalf("Good(%s): false", shown(r))
	}
	if s, e := Encode(r); s != "" || e != api.ErrLong {
		t.Fatalf("Encode(%s): %d bytes, %v", shown(r), len(s), e)
	}
}

func checkDecode(t *testing.T, s string, want api.Ccfb) {
	t.Helper()
	if r, e := Decode(s); !equal(r, want) || e != api.OK {
		t.Fatalf("Decode(%.300x): %s, %v, not %s", s, shown(r), e, shown(want))
	}
}

func checkWrong(t *testing.T, s string, want api.Errno) {
	t.Helper()
	if r, e := Decode(s); r.Sender != 0 || len(r.Blocks) != 0 || r.Stamp != 0 || e != want {
		t.Fatalf("Decode of %d bytes, %.300x: %s, %v, not %v", len(s), s, shown(r), e, want)
	}
}

// P9.1: the bodies of reports.
func TestEncode(t *testing.T) {
	for _, x := range pairs() {
		checkEncode(t, x.r, x.s)
	}
}

// P9.1: every number of Metrics, up to as many as there may be, by steps.
func TestEncodeCounts(t *testing.T) {
	all := mixed(mostMetrics)
	for n := 0; n <= mostMetrics; n += 1 + n/60 {
		checkEncode(t, one(all[:n]...), oneBody(n, mixedBytes(n)))
	}
}

// P9.1: every number of Blocks, up to as many as there may be.
func TestEncodeBlocks(t *testing.T) {
	counts := []int{}
	for n := range mostBlocks + 1 {
		x := filled(counts...)
		checkEncode(t, x.r, x.s)
		counts = append(counts, n*5%7)
	}
}

// P9.1: every Ecn with Agos of all sizes, in each half of a word.
func TestEncodeMetrics(t *testing.T) {
	for ecn := range 4 {
		for ago := 0; ago <= 8191; ago += 1 + ago/90 {
			v := 1<<15 + ecn<<13 + ago
			checkEncode(t, one(got(ecn, ago)), oneBody(1, pieces(v, 0)))
			checkEncode(t, one(api.Metric{}, got(ecn, ago)), oneBody(2, pieces(0, v)))
		}
		checkEncode(t, one(got(ecn, 8191), got(ecn, 8190)), oneBody(2, pieces(1<<15+ecn<<13+8191, 1<<15+ecn<<13+8190)))
	}
}

// P9.1: every First, and Ssrcs, Senders and Stamps of single bits.
func TestEncodeFields(t *testing.T) {
	for first := range 65536 {
		checkEncode(t, api.Ccfb{Blocks: []api.Block{{First: first}}}, "\x00\x00\x00\x00"+head(0, first, 0)+"\x00\x00\x00\x00")
	}
	for i := range 32 {
		v := uint32(1) << i
		b := string(binary.BigEndian.AppendUint32(nil, v))
		checkEncode(t, api.Ccfb{Sender: v}, b+"\x00\x00\x00\x00")
		checkEncode(t, api.Ccfb{Stamp: v}, "\x00\x00\x00\x00"+b)
		checkEncode(t, api.Ccfb{Blocks: []api.Block{{Ssrc: v}}}, "\x00\x00\x00\x00"+b+strings.Repeat("\x00", 8))
	}
}

// P9.1: bodies of just MaxPacket bytes; one word more, wherever it is, is too long.
func TestEncodeFull(t *testing.T) {
	for _, counts := range fullCounts {
		x := filled(counts...)
		if len(x.s) != longest {
			t.Fatal(len(x.s))
		}
		checkEncode(t, x.r, x.s)
		for i, n := range counts {
			if n > mostMetrics-2 {
				continue
			}
			more := slices.Clone(counts)
			more[i] += 2 // by two, as an odd one has room for one more
			checkTooLong(t, filled(more...).r)
		}
		if len(counts) < mostBlocks {
			checkTooLong(t, filled(append(slices.Clone(counts), 0)...).r)
			checkTooLong(t, filled(append([]int{0}, counts...)...).r)
		}
	}
	checkTooLong(t, filled(4096, 4096, 4096, 4096, 4096, 4096, 4096, 4061).r)
	odd := filled(4096, 4096, 4096, 4096, 4096, 4096, 4096, 4058)
	if len(odd.s) != longest-4 {
		t.Fatal(len(odd.s))
	}
	checkEncode(t, odd.r, odd.s)
}

// P9.1: the greatest report there may be, and others that are far too long.
func TestEncodeLong(t *testing.T) {
	checkTooLong(t, filled(slices.Repeat([]int{mostMetrics}, mostBlocks)...).r)
	checkTooLong(t, filled(slices.Repeat([]int{mostMetrics}, 8)...).r)
	checkTooLong(t, api.Ccfb{Blocks: slices.Repeat([]api.Block{{Metrics: make([]api.Metric, mostMetrics)}}, 9)})
	checkTooLong(t, filled(slices.Repeat([]int{2050}, mostBlocks)...).r)
}

// wild are numbers far from what any field may be, also such whose lower bits would do.
var wild = []int{math.MinInt, math.MinInt + 1, -1 << 62, -1 << 32, -1<<32 + 1, -1 << 16, -8192, -4, -3, -2, -1, 1 << 16, 1<<16 + 1, 1 << 31, 1 << 32, 1<<32 + 1, 1 << 62, math.MaxInt - 1, math.MaxInt}

// wrongMetrics are what is no Metric.
func wrongMetrics() []api.Metric {
	var l []api.Metric
	for _, n := range append([]int{4, 5, 7, 8, 255, 256}, wild...) {
		l = append(l, got(n, 0), got(n, 8191))
	}
	for _, n := range append([]int{8192, 8193, 16383, 16384, 32768, 65535}, wild...) {
		l = append(l, got(0, n), got(3, n))
	}
	for _, n := range append([]int{1, 2, 3, 4}, wild...) {
		l = append(l, api.Metric{Ecn: n})
	}
	for _, n := range append([]int{1, 2, 4096, 8190, 8191, 8192}, wild...) {
		l = append(l, api.Metric{Ago: n})
	}
	return append(l, api.Metric{Ecn: 3, Ago: 8191}, api.Metric{Ecn: 1, Ago: -1}, got(4, 8192), got(-1, -1))
}

// wrongBlocks are what is no Block.
func wrongBlocks() []api.Block {
	var l []api.Block
	for _, n := range append([]int{65537, 131071}, wild...) {
		l = append(l, api.Block{First: n}, api.Block{Ssrc: 1, First: n, Metrics: mixed(3)})
	}
	for _, n := range []int{mostMetrics + 1, mostMetrics + 2, 2 * mostMetrics, 65535, 65536, 65537, 1 << 20} {
		l = append(l, api.Block{Metrics: make([]api.Metric, n)})
	}
	for _, m := range wrongMetrics() {
		l = append(l, api.Block{Metrics: []api.Metric{m}})
		l = append(l, api.Block{Metrics: append(mixed(5), m)})
		l = append(l, api.Block{Metrics: append([]api.Metric{m}, mixed(5)...)})
		l = append(l, api.Block{Metrics: append(mixed(mostMetrics-1), m)})
	}
	return l
}

// P9.1: one Block that can't be is enough, wherever it stands.
func TestEncodeWrong(t *testing.T) {
	good := api.Block{Ssrc: 7, First: 65535, Metrics: mixed(3)}
	for _, b := range wrongBlocks() {
		checkBad(t, api.Ccfb{Sender: 1, Stamp: 2, Blocks: []api.Block{b}})
		checkBad(t, api.Ccfb{Sender: 1, Stamp: 2, Blocks: []api.Block{b, good}})
		checkBad(t, api.Ccfb{Sender: 1, Stamp: 2, Blocks: []api.Block{good, b, good}})
		checkBad(t, api.Ccfb{Sender: 1, Stamp: 2, Blocks: append(slices.Repeat([]api.Block{good}, mostBlocks-1), b)})
	}
}

// P9.1: more Blocks than there may be, all of them good ones.
func TestEncodeMany(t *testing.T) {
	for _, n := range []int{mostBlocks + 1, mostBlocks + 2, 2 * mostBlocks, 256, 65536, 65537, 1 << 20} {
		checkBad(t, api.Ccfb{Blocks: make([]api.Block, n)})
	}
	checkBad(t, filled(slices.Repeat([]int{1}, mostBlocks+1)...).r)
}

// P9.1: what is no report is told, though it would be too long, too.
func TestEncodeWrongAndLong(t *testing.T) {
	long := filled(slices.Repeat([]int{mostMetrics}, mostBlocks)...).r
	checkTooLong(t, long)
	checkBad(t, api.Ccfb{Blocks: slices.Repeat(long.Blocks[:1], mostBlocks+1)})
	checkBad(t, api.Ccfb{Blocks: slices.Repeat([]api.Block{{Metrics: make([]api.Metric, mostMetrics+1)}}, mostBlocks)})
	for _, b := range []api.Block{{First: 65536}, {First: -1}, {Metrics: make([]api.Metric, mostMetrics+1)}, {Metrics: append(mixed(mostMetrics-1), got(0, 8192))}, {Metrics: append(mixed(mostMetrics-1), api.Metric{Ecn: 1})}} {
		for _, i := range []int{0, 7, mostBlocks - 1} {
			blocks := slices.Clone(long.Blocks)
			blocks[i] = b
			checkBad(t, api.Ccfb{Blocks: blocks})
		}
	}
}

// copyOf is r with lists of its own, their spare room included.
func copyOf(r api.Ccfb) api.Ccfb {
	blocks := slices.Clone(r.Blocks[:cap(r.Blocks)])
	for i, b := range blocks {
		blocks[i].Metrics = slices.Clone(b.Metrics[:cap(b.Metrics)])[:len(b.Metrics)]
	}
	r.Blocks = blocks[:len(r.Blocks)]
	return r
}

// P9.1: what is handed in is not changed, its spare room included, and asking
// twice answers the same.
func TestEncodeLeaves(t *testing.T) {
	whole := filled(5, 4, 3, 2, 1, 0).r
	for i := range whole.Blocks {
		whole.Blocks[i].Metrics = whole.Blocks[i].Metrics[:len(whole.Blocks[i].Metrics)/2]
	}
	part := whole
	part.Blocks = whole.Blocks[:3]
	before := copyOf(part)
	first, _ := Encode(part)
	second, _ := Encode(part)
	if first != second || !Good(part) || first == "" {
		t.Errorf("%x, %x", first, second)
	}
	after := copyOf(part)
	for i, b := range after.Blocks[:cap(part.Blocks)] {
		was := before.Blocks[:cap(part.Blocks)][i]
		if b.Ssrc != was.Ssrc || b.First != was.First || len(b.Metrics) != len(was.Metrics) || !slices.Equal(b.Metrics[:cap(b.Metrics)], was.Metrics[:cap(was.Metrics)]) {
			t.Errorf("%d: %+v, not %+v", i, b, was)
		}
	}
}

// P9.1: nil and empty lists are one.
func TestEncodeEmpty(t *testing.T) {
	for _, blocks := range [][]api.Block{nil, {}, make([]api.Block, 0, 20), make([]api.Block, 20)[:0]} {
		checkEncode(t, api.Ccfb{Sender: 0x73656e64, Blocks: blocks, Stamp: 0x74696d65}, "sendtime")
	}
	for _, l := range [][]api.Metric{nil, {}, make([]api.Metric, 0, 9), {got(9, 9)}} {
		checkEncode(t, one(l[:0]...), oneBody(0, ""))
	}
}

// P9.2: reports, as they were written out, those of MaxPacket bytes among them.
func TestDecode(t *testing.T) {
	for _, x := range pairs() {
		checkDecode(t, x.s, x.r)
	}
	for _, counts := range fullCounts {
		x := filled(counts...)
		checkDecode(t, x.s, x.r)
	}
}

// P9.2: every word half as a Metric, in each half of a word: Got with all Ecns
// and Agos, not Got with nothing else, or wrong.
func TestDecodeMetrics(t *testing.T) {
	for v := range 65536 {
		first := oneBody(2, pieces(v, 0x8001))
		second := oneBody(2, pieces(0, v))
		odd := oneBody(3, pieces(0, 0x8001, v, 0))
		if v != 0 && v < 0x8000 {
			checkWrong(t, first, api.ErrMark)
			checkWrong(t, second, api.ErrMark)
			checkWrong(t, odd, api.ErrMark)
			continue
		}
		m := api.Metric{}
		if v != 0 {
			m = got(v>>13&3, v&8191)
		}
		checkDecode(t, first, one(m, got(0, 1)))
		checkDecode(t, second, one(api.Metric{}, m))
		checkDecode(t, odd, one(api.Metric{}, got(0, 1), m))
	}
}

// P9.2: what fills up is 0, whatever the Metric ahead of it is.
func TestDecodePad(t *testing.T) {
	for v := 1; v < 65536; v++ {
		checkWrong(t, oneBody(1, pieces(0x8001, v)), api.ErrPad)
	}
	for i := range 16 {
		checkWrong(t, oneBody(1, pieces(0, 1<<i)), api.ErrPad)
		checkWrong(t, oneBody(3, pieces(0xffff, 0, 0x9000, 1<<i)), api.ErrPad)
		checkDecode(t, oneBody(4, pieces(0xffff, 0, 0x9000, 1<<15)), one(got(3, 8191), api.Metric{}, got(0, 4096), got(0, 0)))
	}
}

// P9.2: bodies of all lengths, by what their length alone tells.
func TestDecodeLengths(t *testing.T) {
	checkWrong(t, "", api.ErrShort)
	checkWrong(t, "send", api.ErrShort)
	checkWrong(t, "\x00\x00\x00\x00", api.ErrShort)
	for _, fill := range []string{"\x00", "\x01", "\x80", "\xff"} {
		for n := range 300 {
			if n%4 != 0 {
				checkWrong(t, strings.Repeat(fill, n), api.ErrCount)
			}
		}
		for n := 1; n < 4; n++ {
			checkWrong(t, strings.Repeat(fill, longest-n), api.ErrCount)
		}
		for _, n := range []int{1, 2, 3, 4, 5, 8, 65536, 1 << 20} {
			checkWrong(t, strings.Repeat(fill, longest+n), api.ErrLong)
		}
	}
}

// P9.2: a body of just MaxPacket bytes is read; one byte, or word, more is too long.
func TestDecodeLong(t *testing.T) {
	for _, counts := range fullCounts {
		s := filled(counts...).s
		checkWrong(t, s+"\x00", api.ErrLong)
		checkWrong(t, s+"time", api.ErrLong)
		checkWrong(t, s+"ssrc\x00\x00\x00\x00", api.ErrLong)
		checkWrong(t, s[:longest-1], api.ErrCount)
		checkWrong(t, s[:longest-3], api.ErrCount)
	}
	checkWrong(t, filled(slices.Repeat([]int{mostMetrics}, mostBlocks)...).s, api.ErrLong)
	checkWrong(t, filled(4096, 4096, 4096, 4096, 4096, 4096, 4096, 4061).s, api.ErrLong)
}

// starts is where each Block of r begins in its body, and where the Stamp does.
func starts(r api.Ccfb) []int {
	l := []int{4}
	for _, b := range r.Blocks {
		l = append(l, l[len(l)-1]+8+(len(b.Metrics)+1)/2*4)
	}
	return l
}

// P9.2: every body cut off at every byte and at every word. Where a Block's Ssrc
// is the last word, that is the Stamp of the Blocks ahead; else bytes lack.
func TestDecodeCut(t *testing.T) {
	all := append(pairs(), filled(3, 0, 2, 1, 0, 0, 7, 8), filled(slices.Repeat([]int{1}, mostBlocks)...))
	for _, x := range all {
		at := starts(x.r)
		for n := range len(x.s) {
			i := slices.Index(at, n-4)
			switch {
			case n%4 != 0:
				checkWrong(t, x.s[:n], api.ErrCount)
			case i >= 0:
				stamp := binary.BigEndian.Uint32([]byte(x.s[n-4:]))
				checkDecode(t, x.s[:n], api.Ccfb{Sender: x.r.Sender, Blocks: x.r.Blocks[:i], Stamp: stamp})
			default:
				checkWrong(t, x.s[:n], api.ErrShort)
			}
		}
	}
}

// P9.2: one Block more than there may be, whatever is of it, also a word alone.
func TestDecodeManyBlocks(t *testing.T) {
	for _, n := range []int{0, 1, 2, 3} {
		x := filled(slices.Repeat([]int{n}, mostBlocks)...)
		checkDecode(t, x.s, x.r)
		ahead := x.s[:len(x.s)-4]
		for _, more := range []string{"\x00\x00\x00\x00", "ssrc", head(1, 2, 0), head(1, 2, 1) + pieces(0x8000, 0), head(1, 2, 4097), head(1, 2, 1) + pieces(1, 1), strings.Repeat("\xff", 400)} {
			checkWrong(t, ahead+more+"time", api.ErrMany)
		}
	}
	checkWrong(t, "send"+strings.Repeat(head(0, 0, 0), 8000)+"time", api.ErrMany)
	checkWrong(t, strings.Repeat("\x00", longest), api.ErrMany)
	checkDecode(t, strings.Repeat("\x00", 8+8*mostBlocks), api.Ccfb{Blocks: make([]api.Block, mostBlocks)})
	checkWrong(t, strings.Repeat("\x00", 8+8*mostBlocks+4), api.ErrMany)
}

// P9.2: a Block that tells more Metrics than there may be, be they there or not.
func TestDecodeManyMetrics(t *testing.T) {
	for _, n := range []int{4097, 4098, 5000, 8192, 16384, 32767, 32768, 65534, 65535} {
		checkWrong(t, oneBody(n, ""), api.ErrMany)
		checkWrong(t, oneBody(n, pieces(0x8000, 0x8000)), api.ErrMany)
		if 2*n+18 < longest {
			checkWrong(t, oneBody(n, mixedBytes(n)), api.ErrMany)
		}
		checkWrong(t, "send"+head(1, 1, 2)+pieces(0x8000, 0)+head(2, 2, n)+"time", api.ErrMany)
	}
	for _, n := range []int{4095, 4096} {
		checkWrong(t, oneBody(n, ""), api.ErrShort)
		checkWrong(t, oneBody(n, mixedBytes(n)[4:]), api.ErrShort)
		checkDecode(t, oneBody(n, mixedBytes(n)), one(mixed(n)...))
	}
}

// P9.2: a Block's first 8 bytes that would leave less than the Stamp's four.
func TestDecodeShortHead(t *testing.T) {
	for _, ahead := range []string{"send", "send" + head(1, 2, 0), "send" + head(1, 2, 3) + mixedBytes(3)} {
		for _, ssrc := range []string{"ssrc", "\x00\x00\x00\x00", "\xff\xff\xff\xff"} {
			for _, rest := range []string{"\x00\x00\x00\x00", "\x00\x00\x00\x01", "\x00\x00\x10\x01", "\xff\xff\xff\xff"} {
				checkWrong(t, ahead+ssrc+rest, api.ErrShort)
			}
		}
	}
}

// P9.2: a Block's Metrics, what fills up included, that would leave less than the
// Stamp's four, though they may be all there.
func TestDecodeShortMetrics(t *testing.T) {
	for n := 1; n < 70; n++ {
		metrics := mixedBytes(n)
		whole := oneBody(n, metrics)
		checkDecode(t, whole, one(mixed(n)...))
		checkWrong(t, whole[:len(whole)-4], api.ErrShort)
		checkWrong(t, oneBody(n, metrics[4:]), api.ErrShort)
		checkWrong(t, "send"+head(1, 2, 0)+head(1, 2, n)+metrics, api.ErrShort)
		if n > 2 {
			checkWrong(t, oneBody(n, ""), api.ErrShort)
		}
	}
}

// P9.2: where two things are wrong, the first one is told, in the chapter's order
// and Block by Block.
func TestDecodeFirst(t *testing.T) {
	sixteen := strings.Repeat(head(0, 0, 0), mostBlocks)
	for i, x := range []struct {
		s    string
		want api.Errno
	}{
		{strings.Repeat("\xff", longest+1), api.ErrLong},
		{strings.Repeat("\x00", longest+4), api.ErrLong},
		{"s", api.ErrCount},
		{"sen", api.ErrCount},
		{"sendt", api.ErrCount},
		{"send" + head(1, 1, 4097) + "tim", api.ErrCount},
		{"send" + head(1, 1, 1) + pieces(1, 1) + "tim", api.ErrCount},
		{"send" + sixteen + head(0, 0, 0) + "t", api.ErrCount},
		{"send" + sixteen + "ssrc" + "time", api.ErrMany},
		{"send" + sixteen + "ssrc" + "\x00\x00\x10\x01", api.ErrMany},
		{"send" + head(1, 1, 4097), api.ErrShort},
		{"send" + head(1, 1, 65535), api.ErrShort},
		{"send" + head(1, 1, 4097) + pieces(1, 1), api.ErrMany},
		{"send" + head(1, 1, 3) + pieces(1, 1) + "time", api.ErrShort},
		{"send" + head(1, 1, 1) + pieces(1, 1), api.ErrShort},
		{"send" + head(1, 1, 1) + pieces(0x8000, 1), api.ErrShort},
		{"send" + head(1, 1, 1) + pieces(1, 1) + "time", api.ErrMark},
		{"send" + head(1, 1, 3) + pieces(0, 0, 0x7fff, 0xffff) + "time", api.ErrMark},
		{"send" + head(1, 1, 3) + pieces(1, 0, 0, 0xffff) + "time", api.ErrMark},
		{"send" + head(1, 1, 1) + pieces(1, 0) + head(2, 2, 4097) + "time", api.ErrMark},
		{"send" + head(1, 1, 1) + pieces(1, 0) + head(2, 2, 1), api.ErrMark},
		{"send" + head(1, 1, 1) + pieces(0, 1) + head(2, 2, 2) + pieces(1, 1) + "time", api.ErrPad},
		{"send" + head(1, 1, 1) + pieces(0, 1) + head(2, 2, 4097) + "time", api.ErrPad},
		{"send" + head(1, 1, 1) + pieces(0, 1) + head(2, 2, 9) + "time", api.ErrPad},
		{"send" + head(1, 1, 1) + pieces(0, 1) + sixteen + "time", api.ErrPad},
		{"send" + head(1, 1, 1) + pieces(1, 0) + sixteen + "time", api.ErrMark},
		{"send" + head(1, 1, 4097) + sixteen + "time", api.ErrMany},
		{"send" + head(1, 1, 4096) + sixteen + "time", api.ErrShort},
		{"send" + head(1, 1, 2) + pieces(0, 0) + head(2, 2, 4097) + head(2, 2, 1) + pieces(0, 1) + "time", api.ErrMany},
		{"send" + head(1, 1, 0) + head(1, 1, 1) + pieces(0x8000, 2) + head(2, 2, 2) + pieces(0, 1) + "time", api.ErrPad},
		{"send" + head(1, 1, 0) + head(1, 1, 2) + pieces(0x8000, 2) + head(2, 2, 1) + pieces(0, 1) + "time", api.ErrMark},
	} {
		if r, e := Decode(x.s); e != x.want || r.Sender != 0 || r.Stamp != 0 || len(r.Blocks) != 0 {
			t.Errorf("%d: %s, %v, not %v", i, shown(r), e, x.want)
		}
	}
}

// P9.2: what is told is new: no two lists of one answer, and no two answers, share
// any memory, spare room included.
func TestDecodeNew(t *testing.T) {
	x := filled(3, 1, 0, 2, 5, 4)
	first, _ := Decode(x.s)
	second, _ := Decode(x.s)
	for i := range first.Blocks {
		l := first.Blocks[i].Metrics
		l = l[:cap(l)]
		for k := range l {
			l[k] = got(-1, -i)
		}
		first.Blocks[i].Metrics = append(first.Blocks[i].Metrics, got(-2, -i))
	}
	for i, b := range first.Blocks {
		n := len(x.r.Blocks[i].Metrics)
		for k, m := range b.Metrics {
			if k < n && m != got(-1, -i) || k >= n && m != got(-2, -i) {
				t.Errorf("%d, %d: %+v", i, k, m)
			}
		}
	}
	clear(first.Blocks[:cap(first.Blocks)])
	if !equal(second, x.r) {
		t.Error(shown(second))
	}
	checkDecode(t, x.s, x.r)
}

// plain is the body of r by a plain reading of the chapter.
func plain(r api.Ccfb) string {
	b := binary.BigEndian.AppendUint32(nil, r.Sender)
	for _, x := range r.Blocks {
		b = append(b, head(x.Ssrc, x.First, len(x.Metrics))...)
		for _, m := range x.Metrics {
			v := 0
			if m.Got {
				v = 32768 + 8192*m.Ecn + m.Ago
			}
			b = append(b, pieces(v)...)
		}
		for len(b)%4 != 0 {
			b = append(b, 0)
		}
	}
	return string(binary.BigEndian.AppendUint32(b, r.Stamp))
}

// told is what a plain reading of the chapter tells of s.
func told(s string) (api.Ccfb, api.Errno) {
	var none api.Ccfb
	switch {
	case len(s) > 65536:
		return none, api.ErrLong
	case len(s)%4 != 0:
		return none, api.ErrCount
	case len(s) < 8:
		return none, api.ErrShort
	}
	b := []byte(s)
	r := api.Ccfb{Sender: binary.BigEndian.Uint32(b)}
	b = b[4:]
	for len(b) > 4 {
		if len(r.Blocks) >= 16 {
			return none, api.ErrMany
		}
		if len(b)-8 < 4 {
			return none, api.ErrShort
		}
		x := api.Block{Ssrc: binary.BigEndian.Uint32(b), First: int(binary.BigEndian.Uint16(b[4:]))}
		n := int(binary.BigEndian.Uint16(b[6:]))
		b = b[8:]
		if n > 4096 {
			return none, api.ErrMany
		}
		if len(b)-(n+n%2)*2 < 4 {
			return none, api.ErrShort
		}
		for i := range n {
			v := int(binary.BigEndian.Uint16(b[2*i:]))
			if v > 0 && v < 32768 {
				return none, api.ErrMark
			}
			x.Metrics = append(x.Metrics, api.Metric{Got: v > 0, Ecn: v / 8192 % 4, Ago: v % 8192})
		}
		if n%2 == 1 && binary.BigEndian.Uint16(b[2*n:]) != 0 {
			return none, api.ErrPad
		}
		b = b[(n+n%2)*2:]
		r.Blocks = append(r.Blocks, x)
	}
	r.Stamp = binary.BigEndian.Uint32(b)
	return r, api.OK
}

// checkTold holds Decode against the plain reading, and, P9.3, Encode against s.
func checkTold(t *testing.T, s string) api.Errno {
	t.Helper()
	r, e := Decode(s)
	want, err := told(s)
	if !equal(r, want) || e != err {
		t.Fatalf("Decode(%x): %s, %v, not %s, %v", s, shown(r), e, shown(want), err)
	}
	if e == api.OK {
		checkEncode(t, r, s)
	}
	return e
}

// some is a report by chance, of at most so many Blocks and Metrics each.
func some(source *rand.Rand, blocks, metrics int) api.Ccfb {
	r := api.Ccfb{Sender: source.Uint32(), Stamp: source.Uint32()}
	for range source.Intn(blocks + 1) {
		b := api.Block{Ssrc: source.Uint32(), First: source.Intn(65536)}
		for range source.Intn(metrics + 1) {
			m := api.Metric{}
			if source.Intn(3) > 0 {
				m = got(source.Intn(4), source.Intn(8192))
			}
			b.Metrics = append(b.Metrics, m)
		}
		r.Blocks = append(r.Blocks, b)
	}
	return r
}

// P9.1, P9.3: reports of all sorts: their bodies, and these read again.
func TestBack(t *testing.T) {
	source := rand.New(rand.NewSource(9))
	for range 20000 {
		r := some(source, mostBlocks, 9)
		checkEncode(t, r, plain(r))
		checkDecode(t, plain(r), r)
	}
	for range 60 {
		r := some(source, mostBlocks, mostMetrics)
		if s := plain(r); len(s) > longest {
			checkTooLong(t, r)
		} else {
			checkEncode(t, r, s)
			checkDecode(t, s, r)
		}
	}
	for _, x := range pairs() {
		s, _ := Encode(x.r)
		checkDecode(t, s, x.r)
		r, _ := Decode(x.s)
		checkEncode(t, r, x.s)
	}
	for _, counts := range fullCounts {
		x := filled(counts...)
		s, _ := Encode(x.r)
		checkDecode(t, s, x.r)
		r, _ := Decode(s)
		checkEncode(t, r, x.s)
	}
}

// P9.2, P9.3: bodies with a bit turned, a word put in or taken out, or cut off,
// held against the plain reading.
func TestDecodeExact(t *testing.T) {
	source := rand.New(rand.NewSource(92))
	seen := map[api.Errno]int{}
	for range 200000 {
		b := []byte(plain(some(source, 3+source.Intn(2)*source.Intn(16), 5)))
		for range source.Intn(3) {
			b[source.Intn(len(b))] ^= 1 << source.Intn(8)
		}
		at := source.Intn(len(b)/4) * 4
		switch source.Intn(8) {
		case 0:
			b = b[:source.Intn(len(b)+1)]
		case 1:
			b = slices.Delete(b, at, at+4)
		case 2:
			b = slices.Insert(b, at, 0, 0, 0, byte(source.Intn(4)))
		case 3:
			b = slices.Insert(b, at, 0x80, 1, 0, 0)
		}
		seen[checkTold(t, string(b))]++
	}
	for _, e := range []api.Errno{api.OK, api.ErrCount, api.ErrShort, api.ErrMany, api.ErrMark, api.ErrPad} {
		if seen[e] < 1000 {
			t.Error(e, seen[e])
		}
	}
}

// P9.2, P9.3: each byte of small bodies made any other one.
func TestDecodeTurned(t *testing.T) {
	for _, x := range append(pairs()[:15], filled(3, 0, 2, 1)) {
		for i := range len(x.s) {
			for v := range 256 {
				b := []byte(x.s)
				b[i] = byte(v)
				checkTold(t, string(b))
			}
		}
	}
}

// P9.2: bytes by chance, of all lengths, seldom a report.
func TestDecodeAny(t *testing.T) {
	source := rand.New(rand.NewSource(93))
	for range 20000 {
		b := make([]byte, source.Intn(120))
		source.Read(b)
		checkTold(t, string(b))
		for i := range b {
			if source.Intn(4) > 0 {
				b[i] = byte(source.Intn(3))
			}
		}
		checkTold(t, string(b))
	}
	for _, n := range []int{longest - 4, longest - 1, longest, longest + 1} {
		b := make([]byte, n)
		source.Read(b)
		checkTold(t, string(b))
	}
}

// P9.1, P9.2: the calls keep nothing: an answer is the same whatever came between.
func TestKeepsNothing(t *testing.T) {
	for _, x := range pairs() {
		checkEncode(t, x.r, x.s)
		checkDecode(t, x.s, x.r)
		checkBad(t, api.Ccfb{Blocks: make([]api.Block, mostBlocks+1)})
		checkWrong(t, x.s+"x", api.ErrCount)
		checkEncode(t, x.r, x.s)
		checkDecode(t, x.s, x.r)
	}
}
