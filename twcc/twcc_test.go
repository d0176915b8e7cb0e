package twcc

import (
	"encoding/binary"
	"fmt"
	"math"
	"math/rand"
	"slices"
	"strings"
	"testing"

	"flywheel/api"
)

// The bounds that a body and a report have, as the chapter's numbers.
const (
	longest = 65536
	most    = 4096
)

// pieces is each number as two bytes.
func pieces(l ...int) string {
	var b []byte
	for _, n := range l {
		b = binary.BigEndian.AppendUint16(b, uint16(n))
	}
	return string(b)
}

// many is n times s.
func many(n, s int) []int { return slices.Repeat([]int{s}, n) }

// join is lists one behind the other.
func join(l ...[]int) []int { return slices.Concat(l...) }

// padded is s with bytes 0 up to a whole word.
func padded(s string) string { return s + strings.Repeat("\x00", (4-len(s)%4)%4) }

// ahead is what stands ahead of the chunks of about: of n Status.
func ahead(n int) string { return "sendmedi\x01\x02" + pieces(n) + "\xff\xfe\xfd\xfc" }

// about is a report with these lists, behind known bytes.
func about(status, deltas []int) api.Twcc {
	return api.Twcc{Sender: 0x73656e64, Media: 0x6d656469, First: 258, Base: -259, Count: 252, Status: status, Deltas: deltas}
}

// plainDeltas is Deltas of all sizes for these Status, and their bytes.
func plainDeltas(status []int) ([]int, string) {
	var l []int
	var b []byte
	for i, s := range status {
		switch s {
		case 1:
			l = append(l, i*37%256)
			b = append(b, byte(i*37%256))
		case 2:
			d := i*12345%65536 - 32768
			l = append(l, d)
			b = binary.BigEndian.AppendUint16(b, uint16(d))
		}
	}
	return l, string(b)
}

type pair struct {
	r api.Twcc
	s string
}

// laid is a report with these Status, and its body with these chunks.
func laid(status []int, chunks ...int) pair {
	l, b := plainDeltas(status)
	return pair{about(status, l), padded(ahead(len(status)) + pieces(chunks...) + b)}
}

// run is a chunk that tells n times s.
func run(s, n int) int { return s<<13 + n }

// long is a row of these Status and others 0, each of one bit.
func long(l ...int) int {
	v := 2
	for i := range 14 {
		v *= 2
		if i < len(l) {
			v += l[i]
		}
	}
	return v
}

// short is a row of these Status and others 0, each of two bits.
func short(l ...int) int {
	v := 3
	for i := range 7 {
		v *= 4
		if i < len(l) {
			v += l[i]
		}
	}
	return v
}

// pairs are reports and their bodies, of which at least the chunks are written
// out by hand: every kind of chunk, alone and behind others.
func pairs() []pair {
	return []pair{
		{api.Twcc{Status: []int{0}}, "\x00\x00\x00\x00\x00\x00\x00\x00\x00\x00\x00\x01\x00\x00\x00\x00\x00\x01\x00\x00"},
		{
			api.Twcc{Sender: 0x01020304, Media: 0xfffefdfc, First: 65535, Base: -1, Count: 255, Status: []int{1}, Deltas: []int{255}},
			"\x01\x02\x03\x04\xff\xfe\xfd\xfc\xff\xff\x00\x01\xff\xff\xff\xff\x20\x01\xff\x00",
		},
		{
			api.Twcc{Sender: math.MaxUint32, Media: 1 << 31, Base: -1 << 23, Count: 1, Status: []int{2}, Deltas: []int{-32768}},
			"\xff\xff\xff\xff\x80\x00\x00\x00\x00\x00\x00\x01\x80\x00\x00\x01\x40\x01\x80\x00",
		},
		{
			api.Twcc{Base: 1<<23 - 1, Status: []int{2, 1, 0, 2}, Deltas: []int{32767, 0, -1}},
			"\x00\x00\x00\x00\x00\x00\x00\x00\x00\x00\x00\x04\x7f\xff\xff\x00\xe4\x80\x7f\xff\x00\xff\xff\x00",
		},
		laid(many(20, 1), 0x2014),
		laid(many(6, 0), 0x0006),
		laid(many(7, 2), 0x4007),
		laid([]int{0, 1}, 0x9000),
		laid([]int{1, 0}, 0xa000),
		laid([]int{1, 0, 2}, 0xd200),
		laid([]int{0, 0, 2}, 0xc200),
		laid([]int{2, 2, 1}, 0xe900),
		laid(append(many(6, 1), 0), 0xbf00),
		laid(append(many(6, 2), 1), 0xeaa9),
		laid(append(many(6, 0), 2), 0xc002),
		laid(append(many(7, 1), 0), run(1, 7), run(0, 1)),
		laid(append(many(8, 2), 0, 1), run(2, 8), long(0, 1)),
		laid(append(many(8, 2), 0, 2), run(2, 8), short(0, 2)),
		laid([]int{1, 0, 1, 0, 1, 0, 1, 0, 1, 0, 1, 0, 1}, 0xaaaa),
		laid([]int{1, 0, 1, 0, 1, 0, 1, 0, 1, 0, 1, 0, 1, 1}, 0xaaab),
		laid([]int{1, 0, 1, 0, 1, 0, 1, 0, 1, 0, 1, 0, 1, 2}, short(1, 0, 1, 0, 1, 0, 1), short(0, 1, 0, 1, 0, 1, 2)),
		laid([]int{1, 0, 1, 0, 1, 0, 1, 0, 1, 0, 1, 0, 1, 0, 2}, 0xaaaa, run(2, 1)),
		laid([]int{0, 1, 1, 1, 1, 1, 1, 1, 1, 1, 1, 1, 1, 1, 1, 1}, 0x9fff, run(1, 2)),
		laid(join([]int{1, 0}, many(12, 0), many(2, 2)), long(1), run(2, 2)),
		laid(join([]int{1, 0}, many(11, 0), many(2, 2)), short(1), short(0, 0, 0, 0, 0, 0, 2), run(2, 1)),
		laid(join([]int{1}, many(7, 0), many(9, 2)), 0xd000, 0xcaaa, 0x4003),
		laid(join(many(7, 0), many(7, 1), many(7, 2)), run(0, 7), run(1, 7), run(2, 7)),
		laid(join(many(6, 0), many(8, 1)), long(0, 0, 0, 0, 0, 0, 1, 1, 1, 1, 1, 1, 1, 1)),
		laid(join(many(6, 0), many(9, 1)), long(0, 0, 0, 0, 0, 0, 1, 1, 1, 1, 1, 1, 1, 1), run(1, 1)),
		laid(join(many(6, 2), many(9, 1)), short(2, 2, 2, 2, 2, 2, 1), run(1, 8)),
		laid(join(many(300, 0), []int{1}, many(255, 2)), run(0, 300), short(1, 2, 2, 2, 2, 2, 2), run(2, 249)),
		laid(many(most-1, 0), run(0, most-1)),
		laid(many(most, 0), run(0, most)),
		laid(many(most, 1), run(1, most)),
		laid(many(most, 2), run(2, most)),
		laid(append(many(most-1, 1), 2), run(1, most-1), run(2, 1)),
	}
}

// equal is whether a and b are one report; nil and empty lists are one.
func equal(a, b api.Twcc) bool {
	return a.Sender == b.Sender && a.Media == b.Media && a.First == b.First && a.Base == b.Base && a.Count == b.Count &&
		slices.Equal(a.Status, b.Status) && slices.Equal(a.Deltas, b.Deltas)
}

// shown is r as a text that is not too long to be read.
func shown(r api.Twcc) string { return fmt.Sprintf("%.400s", fmt.Sprintf("%+v", r)) }

func checkEncode(t *testing.T, r api.Twcc, want string) {
	t.Helper()
	if !Good(r) {
		t.Fatalf("Good(%s): false", shown(r))
	}
	if s, e := Encode(r); s != want || e != api.OK {
		t.Fatalf("Encode(%s): %.300x, %v, not %.300x", shown(r), s, e, want)
	}
}

// checkBad is for what is no report.
func checkBad(t *testing.T, r api.Twcc) {
	t.Helper()
	if Good(r) {
		t.Fatalf("Good(%s): true", shown(r))
	}
	if s, e := Encode(r); s != "" || e != api.ErrArg {
		t.Fatalf("Encode(%s): %.300x, %v", shown(r), s, e)
	}
}

func checkDecode(t *testing.T, s string, want api.Twcc) {
	t.Helper()
	if r, e := Decode(s); !equal(r, want) || e != api.OK {
		t.Fatalf("Decode(%.300x): %s, %v, not %s", s, shown(r), e, shown(want))
	}
}

func checkWrong(t *testing.T, s string, want api.Errno) {
	t.Helper()
	if r, e := Decode(s); !equal(r, api.Twcc{}) || e != want {
		t.Fatalf("Decode of %d bytes, %.300x: %s, %v, not %v", len(s), s, shown(r), e, want)
	}
}

// P10.1: the bodies of reports.
func TestEncode(t *testing.T) {
	for _, x := range pairs() {
		checkEncode(t, x.r, x.s)
	}
}

// P10.1: runs of every Status and of every number of times, and one other behind it.
func TestEncodeRuns(t *testing.T) {
	for s := range 3 {
		for n := 1; n <= most; n += 1 + n/60 {
			x := laid(many(n, s), run(s, n))
			checkEncode(t, x.r, x.s)
		}
		for n := 7; n < most; n += 1 + n/60 {
			other := (s + 1) % 3
			x := laid(append(many(n, s), other), run(s, n), run(other, 1))
			checkEncode(t, x.r, x.s)
		}
	}
}

// P10.1: where 7 that are alike, or fewer that are all that are left, begin a run,
// and where one less than 7 does not.
func TestEncodeAlike(t *testing.T) {
	for n := 1; n < 7; n++ {
		x := laid(append(many(n, 1), 0), long(many(n, 1)...))
		checkEncode(t, x.r, x.s)
		x = laid(append(many(n, 0), 1), long(append(many(n, 0), 1)...))
		checkEncode(t, x.r, x.s)
		x = laid(append(many(n, 2), 0), short(many(n, 2)...))
		checkEncode(t, x.r, x.s)
		for s := range 3 {
			x = laid(join([]int{1, 0, 1, 0, 1, 0, 1, 0, 1, 0, 1, 0, 1, 0}, many(n, s)), 0xaaaa, run(s, n))
			checkEncode(t, x.r, x.s)
		}
	}
}

// P10.1: a 2 in each place: within the next 14 it makes a row of 7, behind them
// it does not.
func TestEncodeTwo(t *testing.T) {
	mixed := []int{1, 0, 1, 0, 1, 0, 1, 0, 1, 0, 1, 0, 1, 0}
	for i := range mixed {
		l := slices.Clone(mixed)
		l[i] = 2
		// Without a 2 in it, the second half is a row of 14 that is not full.
		second := short(l[7:]...)
		if i < 7 {
			second = long(l[7:]...)
		}
		x := laid(l, short(l[:7]...), second)
		checkEncode(t, x.r, x.s)
	}
	for n := 8; n <= 14; n++ {
		x := laid(join(mixed[:n], []int{2}), long(mixed...), run(2, 1))
		if n < 14 {
			x = laid(join(mixed[:n], []int{2}), short(mixed[:7]...), short(append(slices.Clone(mixed[7:n]), 2)...))
		}
		checkEncode(t, x.r, x.s)
	}
}

// P10.1: all Status of small numbers of packets.
func TestEncodeAll(t *testing.T) {
	for n := 1; n <= 9; n++ {
		all := 1
		for range n {
			all *= 3
		}
		for v := range all {
			l := make([]int, n)
			for i := range l {
				l[i] = v % 3
				v /= 3
			}
			x := laid(l, plainChunks(l)...)
			checkEncode(t, x.r, x.s)
			checkDecode(t, x.s, x.r)
		}
	}
}

// P10.1: every small Delta and every large one, at each place in a word.
func TestEncodeDeltas(t *testing.T) {
	for d := range 256 {
		checkEncode(t, about([]int{1}, []int{d}), ahead(1)+pieces(run(1, 1))+string([]byte{byte(d), 0}))
		checkEncode(t, about([]int{1, 1}, []int{9, d}), ahead(2)+pieces(run(1, 2))+string([]byte{9, byte(d)}))
	}
	for d := -32768; d < 32768; d++ {
		checkEncode(t, about([]int{2}, []int{d}), ahead(1)+pieces(run(2, 1), d))
		checkEncode(t, about([]int{1, 2}, []int{9, d}), ahead(2)+pieces(short(1, 2))+"\x09"+pieces(d)+"\x00\x00\x00")
	}
}

// P10.1: every First and Count, Bases of all sizes, Senders and Medias of single bits.
func TestEncodeFields(t *testing.T) {
	body := func(sender, media uint32, first, base, count int) string {
		b := binary.BigEndian.AppendUint32(nil, sender)
		b = binary.BigEndian.AppendUint32(b, media)
		b = append(b, byte(first>>8), byte(first), 0, 1, byte(base>>16), byte(base>>8), byte(base), byte(count), 0, 1, 0, 0)
		return string(b)
	}
	none := []int{0}
	check := func(r api.Twcc, s string) {
		t.Helper()
		checkEncode(t, r, s)
		checkDecode(t, s, r)
	}
	for n := range 65536 {
		check(api.Twcc{First: n, Status: none}, body(0, 0, n, 0, 0))
	}
	for n := range 256 {
		check(api.Twcc{Count: n, Status: none}, body(0, 0, 0, 0, n))
	}
	for n := range 1 << 9 {
		for _, base := range []int{n, -n - 1, n << 14, -n<<14 - 1, 1<<23 - 1 - n, -1<<23 + n} {
			check(api.Twcc{Base: base, Status: none}, body(0, 0, 0, base, 0))
		}
	}
	for i := range 32 {
		v := uint32(1) << i
		check(api.Twcc{Sender: v, Status: none}, body(v, 0, 0, 0, 0))
		check(api.Twcc{Media: v, Status: none}, body(0, v, 0, 0, 0))
	}
}

// wild are numbers far from what any field may be, also such whose lower bits would do.
var wild = []int{math.MinInt, math.MinInt + 1, -1 << 62, -1 << 32, -1<<32 + 1, -1<<24 - 1, -1 << 24, -1<<23 - 1, 1 << 23, 1<<24 - 1, 1 << 24, 1 << 31, 1 << 32, 1<<32 + 1, 1 << 62, math.MaxInt - 1, math.MaxInt}

// P10.1: each number just beyond its bound, and far from it.
func TestEncodeWrongFields(t *testing.T) {
	base := about([]int{0, 1, 2}, []int{3, 4})
	base.Base = 0
	checkEncode(t, base, plain(base))
	for _, n := range append([]int{-65536, -2, -1, 65536, 65537, 131071}, wild...) {
		r := base
		r.First = n
		checkBad(t, r)
	}
	for _, n := range append([]int{-256, -2, -1, 256, 257, 511, 65536}, wild...) {
		r := base
		r.Count = n
		checkBad(t, r)
	}
	for _, n := range wild {
		r := base
		r.Base = n
		checkBad(t, r)
	}
}

// P10.1: no Status, and more than there may be.
func TestEncodeWrongMany(t *testing.T) {
	checkBad(t, api.Twcc{})
	for _, l := range [][]int{nil, {}, make([]int, 0, 9), make([]int, 9)[:0]} {
		checkBad(t, about(l, nil))
		checkBad(t, about(l, []int{}))
		checkBad(t, about(l, []int{0}))
	}
	for _, n := range []int{most + 1, most + 2, 2 * most, 8191, 8192, 65535, 65536, 65537, 1 << 20} {
		checkBad(t, about(many(n, 0), nil))
		checkBad(t, about(many(n, 1), many(n, 1)))
		checkBad(t, about(many(n, 2), many(n, 1)))
		checkBad(t, about(many(n, 1), many(most, 1)))
	}
}

// P10.1: a Status that is none, wherever it stands, with a Delta and without.
func TestEncodeWrongStatus(t *testing.T) {
	for _, n := range append([]int{-256, -3, -2, -1, 3, 4, 5, 7, 8, 255, 256, 257, 258, 65536, 65537}, wild...) {
		checkBad(t, about([]int{n}, nil))
		checkBad(t, about([]int{n}, []int{0}))
		for i := range 9 {
			l := many(9, 0)
			l[i] = n
			checkBad(t, about(l, nil))
			checkBad(t, about(l, []int{0}))
			l = many(9, 1)
			l[i] = n
			checkBad(t, about(l, many(9, 1)))
			checkBad(t, about(l, many(8, 1)))
		}
		checkBad(t, about(append(many(most-1, 0), n), nil))
		checkBad(t, about(append(many(most-1, 0), n), []int{0}))
	}
}

// P10.1: a Delta beyond what its own Status lets, wherever it stands.
func TestEncodeWrongDelta(t *testing.T) {
	for i := range 4 {
		for _, n := range append([]int{-32769, -32768, -256, -2, -1, 256, 257, 32767, 32768, 65536}, wild...) {
			l := []int{1, 1, 1, 1}
			l[i] = n
			checkBad(t, about([]int{1, 0, 1, 1, 0, 1}, l))
			status := []int{2, 2, 2, 2}
			status[i] = 1
			checkBad(t, about(status, l))
		}
		for _, n := range append([]int{-65536, -32770, -32769, 32768, 32769, 65535, 65536}, wild...) {
			l := []int{1, 1, 1, 1}
			l[i] = n
			checkBad(t, about([]int{2, 0, 2, 2, 0, 2}, l))
			status := []int{1, 1, 1, 1}
			status[i] = 2
			checkBad(t, about(status, l))
		}
	}
	x := about([]int{1, 2}, []int{255, 256})
	checkEncode(t, x, plain(x))
	checkBad(t, about([]int{2, 1}, []int{255, 256}))
	x = about([]int{2, 1, 0}, []int{-1, 0})
	checkEncode(t, x, plain(x))
	checkBad(t, about([]int{1, 2, 0}, []int{-1, 0}))
}

// P10.1: fewer or more Deltas than there are packets that were got.
func TestEncodeWrongDeltas(t *testing.T) {
	for _, status := range [][]int{{0}, {1}, {2}, {0, 1, 2}, {1, 0}, {2, 0, 0}, many(20, 0), many(20, 1), many(20, 2), many(most, 0), many(most, 1), many(most, 2)} {
		got := len(slices.DeleteFunc(slices.Clone(status), func(s int) bool { return s == 0 }))
		x := about(status, many(got, 5))
		checkEncode(t, x, plain(x))
		for _, k := range []int{got + 1, got + 2, got + most, 1 << 20} {
			checkBad(t, about(status, many(k, 5)))
		}
		if got > 0 {
			checkBad(t, about(status, many(got-1, 5)))
			checkBad(t, about(status, nil))
		}
	}
}

// P10.1: what is handed in is not changed, its spare room included, and asking
// twice answers the same.
func TestEncodeLeaves(t *testing.T) {
	status := []int{1, 0, 2, 2, 1, 0, 0, 1, 7, 7, 7}
	deltas := []int{1, -2, 3, 4, 5, 7, 7, 7}
	wasStatus, wasDeltas := slices.Clone(status), slices.Clone(deltas)
	r := about(status[:8], deltas[:5])
	first, _ := Encode(r)
	second, _ := Encode(r)
	if first != second || first != plain(r) || !Good(r) {
		t.Errorf("%x, %x", first, second)
	}
	if !slices.Equal(status, wasStatus) || !slices.Equal(deltas, wasDeltas) {
		t.Error(status, deltas)
	}
}

// P10.1: nil and empty Deltas are one.
func TestEncodeEmpty(t *testing.T) {
	for _, l := range [][]int{nil, {}, make([]int, 0, 9), {9}} {
		checkEncode(t, about([]int{0, 0}, l[:0]), ahead(2)+pieces(run(0, 2), 0))
	}
}

// P10.2: reports, as they were written out.
func TestDecode(t *testing.T) {
	for _, x := range pairs() {
		checkDecode(t, x.s, x.r)
	}
}

// P10.2: every chunk there is, as the only one of reports on up to 15 packets,
// and as the first one of reports on more.
func TestDecodeChunks(t *testing.T) {
	for v := range 65536 {
		for _, n := range []int{1, 6, 7, 8, 14, 15} {
			checkTold(t, padded(ahead(n)+pieces(v)+strings.Repeat("\x00", 2*n)))
			checkTold(t, padded(ahead(n)+pieces(v, 0x2001)))
		}
		if v%61 == 0 {
			checkTold(t, padded(ahead(3000)+pieces(v, run(0, 3000))+strings.Repeat("\x07", 2500)))
		}
	}
}

// P10.2: any chunks are read, however they are laid.
func TestDecodeLaid(t *testing.T) {
	for i, x := range []pair{
		laid(many(3, 1), run(1, 1), run(1, 1), run(1, 1)),
		laid(many(3, 1), run(1, 1), run(1, 2)),
		laid(many(3, 1), long(1, 1, 1)),
		laid(many(3, 1), short(1, 1, 1)),
		laid(many(3, 1), run(1, 4)),
		laid(many(3, 1), run(1, 8191)),
		laid(many(3, 0), 0x8000),
		laid(many(3, 0), 0xc000),
		laid(many(3, 0), 0x1fff),
		laid(many(3, 2), 0x5fff),
		laid(many(3, 2), run(2, 1), short(2, 2)),
		laid(many(14, 1), 0xbfff),
		laid(many(7, 2), 0xeaaa),
		laid(many(14, 0), 0xc000, 0xc000),
		laid(many(15, 0), 0x8000, 0xc000),
		laid(many(21, 0), 0xc000, 0x8000),
		laid(many(9, 0), 0xc000, run(0, 3)),
		laid([]int{1, 0, 1}, run(1, 1), run(0, 1), run(1, 1)),
		laid([]int{1, 0, 1}, run(1, 1), long(0, 1)),
		laid([]int{1, 0, 1}, short(1, 0, 1)),
		laid([]int{1, 2}, run(1, 1), run(2, 1)),
		laid([]int{0, 2, 2}, run(0, 1), run(2, 9)),
		laid(append(many(7, 1), many(14, 0)...), 0xd555, 0x8000),
		laid(append(many(14, 1), 2), 0xbfff, run(2, 100)),
		laid(many(most, 0), many(586, 0xc000)...),
		laid(many(most, 0), many(293, 0x8000)...),
		laid(many(most, 1), many(most, run(1, 1))...),
		laid(many(most, 2), many(most, run(2, 1))...),
		laid(many(most, 1), run(1, most-1), run(1, 8191)),
		laid(many(most, 0), run(0, 8191)),
		laid(many(most, 0), run(0, most-1), 0x8000),
		laid(many(most, 0), run(0, most-1), 0xc000),
	} {
		if r, e := Decode(x.s); !equal(r, x.r) || e != api.OK {
			t.Errorf("%d: %s, %v", i, shown(r), e)
		}
	}
}

// P10.2: of a run whatever it tells beyond is left out, of a row it must be 0.
func TestDecodeBeyond(t *testing.T) {
	for n := 1; n <= 14; n++ {
		for _, chunk := range []int{0x1fff, 0x8000, 0xc000} {
			if chunk != 0xc000 || n <= 7 {
				x := laid(many(n, 0), chunk)
				checkDecode(t, x.s, x.r)
			}
		}
		for i := n; i < 14; i++ {
			checkWrong(t, laid(many(n, 0), 0x8000|1<<(13-i)).s, api.ErrChunk)
			checkWrong(t, laid(append(many(7, 0), many(n, 0)...), run(0, 7), 0x8000|1<<(13-i)).s, api.ErrChunk)
		}
		for i := n; i < 7; i++ {
			for s := 1; s < 4; s++ {
				checkWrong(t, laid(many(n, 0), 0xc000|s<<(12-2*i)).s, api.ErrChunk)
				checkWrong(t, laid(append(many(7, 0), many(n, 0)...), run(0, 7), 0xc000|s<<(12-2*i)).s, api.ErrChunk)
			}
		}
	}
	for s := range 3 {
		for n := 1; n < 40; n++ {
			for more := range 40 {
				x := laid(many(n, s), run(s, n+more))
				checkDecode(t, x.s, x.r)
			}
		}
	}
}

// P10.2: runs of a status 3, and of no times.
func TestDecodeWrongRun(t *testing.T) {
	for n := range 8192 {
		checkWrong(t, laid(many(1, 0), run(3, n)).s, api.ErrChunk)
		checkWrong(t, laid(many(50, 0), run(0, 49), run(3, n)).s, api.ErrChunk)
	}
	for s := range 4 {
		checkWrong(t, laid(many(1, 0), run(s, 0)).s, api.ErrChunk)
		checkWrong(t, laid(many(50, 0), run(0, 49), run(s, 0)).s, api.ErrChunk)
		checkWrong(t, laid(many(50, 0), run(s, 0), run(0, 50)).s, api.ErrChunk)
	}
}

// P10.2: rows with a status 3, in each place.
func TestDecodeWrongRow(t *testing.T) {
	for i := range 7 {
		for s := range 3 {
			l := many(7, s)
			l[i] = 3
			for _, n := range []int{7, 8, 100} {
				checkWrong(t, padded(ahead(n)+pieces(short(l...), run(0, n))), api.ErrChunk)
			}
			checkWrong(t, padded(ahead(14)+pieces(short(), short(l...))), api.ErrChunk)
		}
	}
}

// P10.2: bodies of all lengths, by what their length alone tells.
func TestDecodeLengths(t *testing.T) {
	for _, fill := range []string{"\x00", "\x01", "\x80", "\xff"} {
		for n := range 300 {
			if n%4 != 0 {
				checkWrong(t, strings.Repeat(fill, n), api.ErrCount)
			} else if n < 16 {
				checkWrong(t, strings.Repeat(fill, n), api.ErrShort)
			}
		}
		for n := 1; n < 4; n++ {
			checkWrong(t, strings.Repeat(fill, longest-n), api.ErrCount)
		}
		for _, n := range []int{1, 2, 3, 4, 5, 8, 65536, 1 << 20} {
			checkWrong(t, strings.Repeat(fill, longest+n), api.ErrLong)
		}
	}
	x := laid(many(most, 2), run(2, most))
	filled := x.s + strings.Repeat("\x00", longest-len(x.s))
	checkWrong(t, filled, api.ErrPad)
	checkWrong(t, filled+"\x00", api.ErrLong)
	checkWrong(t, filled+"\x00\x00\x00\x00", api.ErrLong)
	checkWrong(t, filled[1:], api.ErrCount)
}

// P10.2: no Status, and more than there may be, be they there or not.
func TestDecodeMany(t *testing.T) {
	for _, more := range []string{"", "\x00\x00\x00\x00", pieces(run(0, 1), 0), "\xff\xff\xff\xff"} {
		checkWrong(t, ahead(0)+more, api.ErrCount)
		for _, n := range []int{most + 1, most + 2, 8191, 8192, 16384, 32767, 32768, 65534, 65535} {
			checkWrong(t, ahead(n)+more, api.ErrMany)
			checkWrong(t, ahead(n)+pieces(run(0, n%8192), 0)+more, api.ErrMany)
		}
	}
	checkWrong(t, laid(many(most+1, 0), run(0, most+1)).s, api.ErrMany)
	checkWrong(t, laid(many(most+1, 1), run(1, most+1)).s, api.ErrMany)
}

// P10.2: every body cut off at every byte: no whole words, or bytes that lack,
// be they of the head, of a chunk or of a Delta.
func TestDecodeCut(t *testing.T) {
	all := append(pairs(),
		laid(many(40, 1), many(40, run(1, 1))...),
		laid(many(40, 2), many(40, run(2, 1))...),
		laid(many(70, 0), many(10, 0xc000)...))
	for _, x := range all {
		for n := range len(x.s) {
			if n%4 != 0 {
				checkWrong(t, x.s[:n], api.ErrCount)
			} else {
				checkWrong(t, x.s[:n], api.ErrShort)
			}
		}
	}
}

// P10.2: a chunk that is not there, by one and by more.
func TestDecodeShortChunk(t *testing.T) {
	for n := 2; n < 60; n++ {
		chunks := many(n, run(0, 1))
		x := laid(many(n, 0), chunks...)
		checkDecode(t, x.s, x.r)
		if n%2 == 1 {
			checkWrong(t, ahead(n)+pieces(chunks[1:]...), api.ErrShort)
		} else {
			checkWrong(t, ahead(n)+pieces(chunks[2:]...), api.ErrShort)
		}
	}
	for _, n := range []int{1, 2, most} {
		checkWrong(t, ahead(n), api.ErrShort)
	}
	checkWrong(t, ahead(15)+pieces(0x8000), api.ErrCount)
	checkWrong(t, ahead(29)+pieces(0x8000, 0x8000), api.ErrShort)
	checkWrong(t, ahead(15)+pieces(0xc000, 0xc000), api.ErrShort)
	checkWrong(t, ahead(most)+pieces(run(0, most-2), run(0, 1)), api.ErrShort)
}

// P10.2: a Delta that is not there, or of which but one byte is.
func TestDecodeShortDelta(t *testing.T) {
	for n := 1; n < 60; n++ {
		for s := 1; s < 3; s++ {
			x := laid(many(n, s), run(s, n))
			checkDecode(t, x.s, x.r)
			checkWrong(t, x.s[:len(x.s)-4], api.ErrShort)
		}
	}
	checkWrong(t, ahead(2)+pieces(run(2, 2), 9), api.ErrShort)
	checkWrong(t, ahead(2)+pieces(short(1, 2))+"\x09\x00", api.ErrShort)
	checkDecode(t, ahead(2)+pieces(short(1, 2))+"\x09\x01\x02\x00\x00\x00", about([]int{1, 2}, []int{9, 258}))
	checkWrong(t, ahead(2)+pieces(short(2, 1))+"\x09\x00", api.ErrShort)
	checkDecode(t, ahead(2)+pieces(short(2, 1))+"\x01\x02\x09\x00\x00\x00", about([]int{2, 1}, []int{258, 9}))
	checkWrong(t, ahead(3)+pieces(run(1, 3))+"\x09\x00", api.ErrShort)
	checkWrong(t, ahead(3)+pieces(run(1, 2), run(1, 1)), api.ErrShort)
	checkDecode(t, ahead(3)+pieces(run(1, 2), run(0, 1))+"\x07\x08\x00\x00", about([]int{1, 1, 0}, []int{7, 8}))
}

// P10.2: what fills up is 0, and at most three bytes.
func TestDecodePad(t *testing.T) {
	for n := range 9 {
		l := many(n, 1)
		x := laid(append(l, 0), append(many(n, run(1, 1)), run(0, 1))...)
		checkDecode(t, x.s, x.r)
		used := 16 + 2*(n+1) + n
		for i := used; i < len(x.s); i++ {
			for v := 1; v < 256; v++ {
				b := []byte(x.s)
				b[i] = byte(v)
				checkWrong(t, string(b), api.ErrPad)
			}
		}
		for k := 1; k < 5; k++ {
			checkWrong(t, x.s+strings.Repeat("\x00\x00\x00\x00", k), api.ErrPad)
			checkWrong(t, x.s+strings.Repeat("\x01\x00\x00\x00", k), api.ErrPad)
		}
	}
	checkDecode(t, ahead(1)+pieces(run(2, 1), 1), about([]int{2}, []int{1}))
	checkWrong(t, ahead(1)+pieces(run(2, 1), 1)+"\x00\x00\x00\x00", api.ErrPad)
	checkWrong(t, ahead(1)+pieces(run(0, 1), 0, run(0, 1), 0), api.ErrPad)
}

// P10.2: where two things are wrong, the first one is told, in the chapter's order.
func TestDecodeFirst(t *testing.T) {
	for i, x := range []struct {
		s    string
		want api.Errno
	}{
		{strings.Repeat("\xff", longest+1), api.ErrLong},
		{strings.Repeat("\x00", longest+4), api.ErrLong},
		{"s", api.ErrCount},
		{ahead(1)[:15], api.ErrCount},
		{ahead(0)[:12], api.ErrShort},
		{ahead(most + 1)[:12], api.ErrShort},
		{ahead(0) + "x", api.ErrCount},
		{ahead(most+1) + "x", api.ErrCount},
		{ahead(1) + pieces(run(3, 1)), api.ErrCount},
		{ahead(0) + pieces(run(3, 1), 1), api.ErrCount},
		{ahead(0) + strings.Repeat("\x00", 40), api.ErrCount},
		{ahead(most + 1), api.ErrMany},
		{ahead(most+1) + pieces(run(3, 1), 1), api.ErrMany},
		{ahead(most+1) + pieces(run(0, most+1), 0) + "\x00\x00\x00\x01", api.ErrMany},
		{ahead(2) + pieces(run(3, 1), run(1, 0)), api.ErrChunk},
		{ahead(3) + pieces(run(0, 1), run(3, 1)), api.ErrChunk},
		{ahead(3) + pieces(run(1, 1), run(3, 1)), api.ErrChunk},
		{ahead(3) + pieces(run(3, 1), run(0, 1)), api.ErrChunk},
		{ahead(3) + pieces(run(0, 0), run(0, 1)), api.ErrChunk},
		{ahead(100) + pieces(short(0, 3), run(0, 1)), api.ErrChunk},
		{ahead(3) + pieces(run(0, 1), run(0, 1)), api.ErrShort},
		{ahead(3) + pieces(run(1, 1), run(1, 1)), api.ErrShort},
		{ahead(1) + pieces(run(3, 1), 1), api.ErrChunk},
		{ahead(1) + pieces(run(1, 0), 1) + "\x00\x00\x00\x00", api.ErrChunk},
		{ahead(1) + pieces(0xa001, 1) + "\x00\x00\x00\x00", api.ErrChunk},
		{ahead(9) + pieces(run(2, 8), run(3, 1)), api.ErrChunk},
		{ahead(9) + pieces(run(2, 8), 0xe001), api.ErrChunk},
		{ahead(9) + pieces(run(2, 8), 0xa001), api.ErrChunk},
		{ahead(3) + pieces(run(1, 3), 0xffff), api.ErrShort},
		{ahead(1) + pieces(run(1, 1), 0x0001) + "\x00\x00\x00\x00", api.ErrPad},
		{ahead(1) + pieces(run(0, 1), run(3, 1)), api.ErrPad},
		{ahead(1) + pieces(run(0, 1), run(0, 1)) + "\x00\x00\x00\x00", api.ErrPad},
	} {
		if r, e := Decode(x.s); e != x.want || !equal(r, api.Twcc{}) {
			t.Errorf("%d: %s, %v, not %v", i, shown(r), e, x.want)
		}
	}
}

// P10.2: what is told is new: the two lists of one answer, and two answers, share
// no memory, spare room included.
func TestDecodeNew(t *testing.T) {
	for _, x := range pairs() {
		first, _ := Decode(x.s)
		second, _ := Decode(x.s)
		status := first.Status[:cap(first.Status)]
		deltas := first.Deltas[:cap(first.Deltas)]
		for i := range status {
			status[i] = -1
		}
		for i := range deltas {
			deltas[i] = -2
		}
		if slices.Contains(status, -2) || slices.Contains(deltas, -1) {
			t.Error(shown(first))
		}
		if !equal(second, x.r) {
			t.Error(shown(second))
		}
		checkDecode(t, x.s, x.r)
	}
}

// plainChunks is how a plain reading of the chapter lays these Status.
func plainChunks(l []int) []int {
	var chunks []int
	for len(l) > 0 {
		seven, fourteen := l[:min(7, len(l))], l[:min(14, len(l))]
		if slices.Min(seven) == slices.Max(seven) {
			n := 1
			for n < len(l) && n < 8191 && l[n] == l[0] {
				n++
			}
			chunks = append(chunks, run(l[0], n))
			l = l[n:]
		} else if slices.Max(fourteen) < 2 {
			chunks = append(chunks, long(fourteen...))
			l = l[len(fourteen):]
		} else {
			chunks = append(chunks, short(seven...))
			l = l[len(seven):]
		}
	}
	return chunks
}

// plain is the body of r by a plain reading of the chapter.
func plain(r api.Twcc) string {
	b := binary.BigEndian.AppendUint32(nil, r.Sender)
	b = binary.BigEndian.AppendUint32(b, r.Media)
	b = append(b, pieces(r.First, len(r.Status))...)
	b = append(b, byte(r.Base>>16), byte(r.Base>>8), byte(r.Base), byte(r.Count))
	b = append(b, pieces(plainChunks(r.Status)...)...)
	k := 0
	for _, s := range r.Status {
		switch s {
		case 1:
			b = append(b, byte(r.Deltas[k]))
			k++
		case 2:
			b = append(b, byte(r.Deltas[k]>>8), byte(r.Deltas[k]))
			k++
		}
	}
	return padded(string(b))
}

// chunkTold is what a plain reading tells of a chunk, where n are left; a row may
// be longer than that.
func chunkTold(v, n int) ([]int, bool) {
	var l []int
	switch {
	case v < 0x8000:
		return many(min(n, v%8192), v/8192), v/8192 < 3 && v%8192 > 0
	case v < 0xc000:
		for i := range 14 {
			l = append(l, v>>(13-i)%2)
		}
	default:
		for i := range 7 {
			l = append(l, v>>(12-2*i)%4)
		}
	}
	return l, slices.Max(l) < 3 && (len(l) <= n || slices.Max(l[n:]) == 0)
}

// told is what a plain reading of the chapter tells of s.
func told(s string) (r api.Twcc, e api.Errno) {
	var none api.Twcc
	switch {
	case len(s) > 65536:
		return none, api.ErrLong
	case len(s)%4 != 0:
		return none, api.ErrCount
	case len(s) < 16:
		return none, api.ErrShort
	}
	b := []byte(s)
	r = api.Twcc{Sender: binary.BigEndian.Uint32(b), Media: binary.BigEndian.Uint32(b[4:]), First: int(b[8])*256 + int(b[9]), Count: int(b[15])}
	r.Base = int(b[12])*65536 + int(b[13])*256 + int(b[14])
	if r.Base >= 1<<23 {
		r.Base -= 1 << 24
	}
	n := int(b[10])*256 + int(b[11])
	b = b[16:]
	if n == 0 {
		return none, api.ErrCount
	}
	if n > 4096 {
		return none, api.ErrMany
	}
	for n > len(r.Status) {
		if len(b) < 2 {
			return none, api.ErrShort
		}
		l, ok := chunkTold(int(b[0])*256+int(b[1]), n-len(r.Status))
		if !ok {
			return none, api.ErrChunk
		}
		r.Status = append(r.Status, l...)
		b = b[2:]
	}
	r.Status = r.Status[:n]
	for _, k := range r.Status {
		if len(b) < k {
			return none, api.ErrShort
		}
		switch k {
		case 1:
			r.Deltas = append(r.Deltas, int(b[0]))
		case 2:
			r.Deltas = append(r.Deltas, int(int8(b[0]))*256+int(b[1]))
		}
		b = b[k:]
	}
	if len(b) > 3 || strings.Trim(string(b), "\x00") != "" {
		return none, api.ErrPad
	}
	return r, api.OK
}

// checkTold holds Decode against the plain reading, and, P10.3, reads again what
// Encode writes of it.
func checkTold(t *testing.T, s string) api.Errno {
	t.Helper()
	r, e := Decode(s)
	want, err := told(s)
	if !equal(r, want) || e != err {
		t.Fatalf("Decode(%.300x): %s, %v, not %s, %v", s, shown(r), e, shown(want), err)
	}
	if e == api.OK {
		checkEncode(t, r, plain(r))
		checkDecode(t, plain(r), r)
	}
	return e
}

// some is a report by chance, of at most so many Status, which are often alike.
func some(source *rand.Rand, most int) api.Twcc {
	r := api.Twcc{Sender: source.Uint32(), Media: source.Uint32(), First: source.Intn(65536), Base: source.Intn(1<<24) - 1<<23, Count: source.Intn(256)}
	n := 1 + source.Intn(most)
	kinds := 1 + source.Intn(3)
	for len(r.Status) < n {
		s := source.Intn(kinds)
		for range 1 + source.Intn(1+source.Intn(20)) {
			r.Status = append(r.Status, s)
		}
	}
	r.Status = r.Status[:n]
	for _, s := range r.Status {
		switch s {
		case 1:
			r.Deltas = append(r.Deltas, source.Intn(256))
		case 2:
			r.Deltas = append(r.Deltas, source.Intn(65536)-32768)
		}
	}
	return r
}

// P10.1, P10.3: reports of all sorts: their bodies, and these read again.
func TestBack(t *testing.T) {
	source := rand.New(rand.NewSource(10))
	for i := range 20000 {
		size := 60
		if i%200 == 0 {
			size = most
		}
		r := some(source, size)
		checkEncode(t, r, plain(r))
		checkDecode(t, plain(r), r)
	}
	for _, x := range pairs() {
		s, _ := Encode(x.r)
		checkDecode(t, s, x.r)
	}
}

// P10.1, P10.3: the longest bodies there are, of rows alone.
func TestBackLongest(t *testing.T) {
	for _, l := range [][]int{{2, 2, 2, 2, 2, 2, 1}, {1, 0}, {2, 1}, {0, 1, 2}} {
		status := slices.Repeat(l, most)[:most]
		deltas, _ := plainDeltas(status)
		r := about(status, deltas)
		checkEncode(t, r, plain(r))
		checkDecode(t, plain(r), r)
	}
}

// someChunks is chunks by chance that tell of these Status, however they are laid.
func someChunks(source *rand.Rand, l []int) []int {
	var chunks []int
	for len(l) > 0 {
		n := 1
		switch source.Intn(3) {
		case 0:
			alike := 1
			for alike < len(l) && l[alike] == l[0] {
				alike++
			}
			n = 1 + source.Intn(alike)
			times := n
			if n == len(l) {
				times += source.Intn(8192 - n)
			}
			chunks = append(chunks, run(l[0], times))
		case 1:
			n = min(14, len(l))
			if slices.Contains(l[:n], 2) {
				continue
			}
			chunks = append(chunks, long(l[:n]...))
		case 2:
			n = min(7, len(l))
			chunks = append(chunks, short(l[:n]...))
		}
		l = l[n:]
	}
	return chunks
}

// P10.2: any chunks, laid by chance, are read.
func TestDecodeAnyLaid(t *testing.T) {
	source := rand.New(rand.NewSource(101))
	for range 20000 {
		status := some(source, 80).Status
		x := laid(status, someChunks(source, status)...)
		checkDecode(t, x.s, x.r)
	}
}

// P10.2: bodies with a bit turned, a word put in or taken out, or cut off, held
// against the plain reading.
func TestDecodeExact(t *testing.T) {
	source := rand.New(rand.NewSource(102))
	seen := map[api.Errno]int{}
	for range 100000 {
		status := some(source, 30).Status
		b := []byte(laid(status, someChunks(source, status)...).s)
		for range source.Intn(3) {
			b[8+source.Intn(len(b)-8)] ^= 1 << source.Intn(8)
		}
		at := source.Intn(len(b)/4) * 4
		switch source.Intn(8) {
		case 0:
			b = b[:source.Intn(len(b)+1)]
		case 1:
			b = slices.Delete(b, at, at+4)
		case 2:
			b = slices.Insert(b, at, 0, 0, 0, byte(source.Intn(4)))
		case 3:
			b[10], b[11] = byte(source.Intn(2)*source.Intn(20)), byte(source.Intn(2)*source.Intn(40))
		}
		seen[checkTold(t, string(b))]++
	}
	for _, e := range []api.Errno{api.OK, api.ErrCount, api.ErrShort, api.ErrMany, api.ErrChunk, api.ErrPad} {
		if seen[e] < 1000 {
			t.Error(e, seen[e])
		}
	}
}

// P10.2: each byte of small bodies made any other one.
func TestDecodeTurned(t *testing.T) {
	for _, x := range pairs()[:30] {
		for i := range len(x.s) {
			for v := range 256 {
				b := []byte(x.s)
				b[i] = byte(v)
				checkTold(t, string(b))
			}
		}
	}
}

// P10.2: bytes by chance, of all lengths, seldom a report.
func TestDecodeAny(t *testing.T) {
	source := rand.New(rand.NewSource(103))
	for range 20000 {
		b := make([]byte, source.Intn(120))
		source.Read(b)
		checkTold(t, string(b))
		for i := range b {
			if source.Intn(4) > 0 {
				b[i] = byte(source.Intn(3))
			}
		}
		checkTold(t, string(b))
	}
	for _, n := range []int{longest - 4, longest - 1, longest, longest + 1} {
		b := make([]byte, n)
		source.Read(b)
		checkTold(t, string(b))
		b[10] = 1
		checkTold(t, string(b))
	}
}

// P10.1, P10.2: the calls keep nothing: an answer is the same whatever came between.
func TestKeepsNothing(t *testing.T) {
	for _, x := range pairs() {
		checkEncode(t, x.r, x.s)
		checkDecode(t, x.s, x.r)
		checkBad(t, api.Twcc{})
		checkWrong(t, x.s+"x", api.ErrCount)
		checkEncode(t, x.r, x.s)
		checkDecode(t, x.s, x.r)
	}
}
