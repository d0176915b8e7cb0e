package bits

import (
	"fmt"
	"math"
	"math/rand"
	"strings"
	"testing"

	"flywheel/api"
)

// room is how many bits a writer holds.
const room = api.MaxPacket * 8

// wrongCounts are counts of bits that neither Get nor Put takes.
var wrongCounts = []int{math.MinInt, math.MinInt + 1, -1 << 32, -64, -33, -32, -8, -1, 33, 34, 40, 63, 64, 65, 256, 1 << 32, math.MaxInt - 1, math.MaxInt}

// wrongWidths are those that Align does not take.
var wrongWidths = []int{math.MinInt, math.MinInt + 1, -1 << 32, -64, -8, -1, 0, 65, 66, 72, 128, 1 << 32, math.MaxInt - 1, math.MaxInt}

// digits is s with a letter 0 or 1 for each bit.
func digits(s string) string {
	var b strings.Builder
	for i := range len(s) {
		fmt.Fprintf(&b, "%08b", s[i])
	}
	return b.String()
}

// lower is the lower n bits of v, with a letter for each.
func lower(v uint32, n int) string {
	all := fmt.Sprintf("%032b", v)
	return all[len(all)-n:]
}

// number is what letters 0 and 1 say.
func number(digits string) uint32 {
	var v uint32
	for _, c := range digits {
		v = 2*v + uint32(c-'0')
	}
	return v
}

// bytesOf is letters 0 and 1 as bytes, filled up with 0.
func bytesOf(digits string) string {
	for len(digits)%8 != 0 {
		digits += "0"
	}
	var b strings.Builder
	for i := 0; i < len(digits); i += 8 {
		b.WriteByte(byte(number(digits[i : i+8])))
	}
	return b.String()
}

type getCase struct {
	n    int
	want uint32
	left int
}

func checkGets(t *testing.T, s string, l []getCase) *Reader {
	t.Helper()
	r := Read(s)
	if r.Left() != 8*len(s) || r.Bad() {
		t.Fatalf("Read(%x): Left %d, Bad %t", s, r.Left(), r.Bad())
	}
	for i, x := range l {
		if got := r.Get(x.n); got != x.want || r.Left() != x.left || r.Bad() {
			t.Fatalf("Read(%x), %d: Get(%d): %x, Left %d, Bad %t, not %x, %d, false", s, i, x.n, got, r.Left(), r.Bad(), x.want, x.left)
		}
	}
	return r
}

// checkBad asks r whatever may be asked of it: it is bad, and stays so.
func checkBad(t *testing.T, r *Reader) {
	t.Helper()
	for _, n := range append([]int{0, 1, 2, 8, 31, 32}, wrongCounts...) {
		if r.Left() != 0 || !r.Bad() {
			t.Fatalf("bad one: Left %d, Bad %t", r.Left(), r.Bad())
		}
		if got := r.Get(n); got != 0 {
			t.Fatalf("bad one: Get(%d): %x", n, got)
		}
	}
	if r.Left() != 0 || !r.Bad() {
		t.Fatalf("bad one, in the end: Left %d, Bad %t", r.Left(), r.Bad())
	}
}

// P6.1: the highest bit of each byte first, within bytes and across their ends.
func TestGet(t *testing.T) {
	checkGets(t, "\xb0", []getCase{{3, 5, 5}, {1, 1, 4}, {4, 0, 0}})
	checkGets(t, "\x01\x80", []getCase{{7, 0, 9}, {2, 3, 7}, {7, 0, 0}})
	checkGets(t, "\x12\x34\x56\x78", []getCase{{32, 0x12345678, 0}})
	checkGets(t, "\x12\x34\x56\x78", []getCase{{4, 1, 28}, {8, 0x23, 20}, {16, 0x4567, 4}, {4, 8, 0}})
	checkGets(t, "\x12\x34\x56\x78\x9a", []getCase{{4, 1, 36}, {32, 0x23456789, 4}, {4, 0xa, 0}})
	checkGets(t, "\xff\xff\xff\xff\xff", []getCase{{1, 1, 39}, {32, 1<<32 - 1, 7}, {7, 127, 0}})
	checkGets(t, "\xff\xff\xff\xff\xff", []getCase{{7, 127, 33}, {32, 1<<32 - 1, 1}, {1, 1, 0}})
	checkGets(t, "\xff\xff\xff\xfe\x80", []getCase{{31, 1<<31 - 1, 9}, {1, 0, 8}, {1, 1, 7}})
	checkGets(t, "\x7f\xff\xff\xff\xff\xff\xff\xff", []getCase{{1, 0, 63}, {31, 1<<31 - 1, 32}, {31, 1<<31 - 1, 1}, {1, 1, 0}})
	checkGets(t, "\x00\x00\x00\x01", []getCase{{31, 0, 1}, {1, 1, 0}})
	checkGets(t, "\x80\x00\x00\x00", []getCase{{32, 1 << 31, 0}})
	checkGets(t, "\xc3\xa9\x00\xff", []getCase{{9, 0x187, 23}, {15, 0x2900, 8}, {8, 255, 0}})
}

// P6.1: no bits are 0, and change nothing, at the beginning, within and at the
// end, and of an empty text.
func TestGetOfNone(t *testing.T) {
	checkGets(t, "", []getCase{{0, 0, 0}, {0, 0, 0}})
	checkGets(t, "\xff", []getCase{{0, 0, 8}, {3, 7, 5}, {0, 0, 5}, {5, 31, 0}, {0, 0, 0}, {0, 0, 0}})
}

// P6.1: just as many as are left, and one more.
func TestGetToTheEnd(t *testing.T) {
	s := "\xa5\x5a\xc3\x3c\xff\x01\x80\x7e"
	all := digits(s)
	for n := 0; n <= 32; n++ {
		for size := (n + 7) / 8; size <= len(s); size++ {
			r := Read(s[:size])
			for r.Left() > n {
				r.Get(1)
			}
			want := number(all[8*size-n : 8*size])
			if got := r.Get(n); got != want || r.Left() != 0 || r.Bad() {
				t.Fatalf("the last %d of %d bytes: %x, Left %d, Bad %t, not %x", n, size, got, r.Left(), r.Bad(), want)
			}
		}
	}
	for n := 1; n <= 32; n++ {
		for size := (n + 6) / 8; size <= len(s); size++ {
			r := Read(s[:size])
			for r.Left() > n-1 {
				r.Get(1)
			}
			if got := r.Get(n); got != 0 {
				t.Fatalf("%d of %d: %x", n, n-1, got)
			}
			checkBad(t, r)
		}
	}
}

// P6.1: of an empty text any bit is one too many.
func TestGetOfEmpty(t *testing.T) {
	for n := 1; n <= 32; n++ {
		r := checkGets(t, "", nil)
		if got := r.Get(n); got != 0 {
			t.Fatalf("Get(%d): %x", n, got)
		}
		checkBad(t, r)
	}
}

// P6.1: counts that there are not, though there are bits enough.
func TestGetWrong(t *testing.T) {
	for _, n := range wrongCounts {
		for _, ahead := range []int{0, 1, 8, 31, 32} {
			r := Read(strings.Repeat("\xff", 64))
			r.Get(ahead)
			if got := r.Get(n); got != 0 {
				t.Fatalf("Get(%d): %x", n, got)
			}
			checkBad(t, r)
		}
	}
}

// P6.1: of nil.
func TestReaderNil(t *testing.T) {
	var r *Reader
	checkBad(t, r)
}

// P6.1: two readers of one text go each its own way, and one that is bad does
// not make the other one so.
func TestReadersApart(t *testing.T) {
	s := "\x12\x34"
	a, b := Read(s), Read(s)
	if a.Get(12) != 0x123 || a.Get(5) != 0 {
		t.Error("the first one")
	}
	checkBad(t, a)
	if b.Bad() || b.Left() != 16 || b.Get(16) != 0x1234 {
		t.Error("the second one")
	}
}

// P6.1: a text longer than any packet is read to its end.
func TestGetLong(t *testing.T) {
	r := Read(strings.Repeat("\x00\x01", api.MaxPacket) + "\x03")
	if r.Left() != 16*api.MaxPacket+8 {
		t.Fatal(r.Left())
	}
	for i := range api.MaxPacket {
		if r.Get(16) != 1 {
			t.Fatal(i)
		}
	}
	if r.Get(8) != 3 || r.Left() != 0 || r.Bad() {
		t.Error("its end")
	}
}

// P6.1: all of it, held against letters, at counts of all sizes.
func TestGetExact(t *testing.T) {
	source := rand.New(rand.NewSource(6))
	for range 300 {
		b := make([]byte, source.Intn(40))
		source.Read(b)
		s := string(b)
		all, r := digits(s), Read(s)
		for range 60 {
			n := source.Intn(34) - source.Intn(2)*source.Intn(2)
			if n < 0 || n > 32 || n > len(all) {
				if r.Get(n) != 0 {
					t.Fatalf("%x: Get(%d) of %d", s, n, len(all))
				}
				checkBad(t, r)
				break
			}
			want := number(all[:n])
			all = all[n:]
			if got := r.Get(n); got != want || r.Left() != len(all) || r.Bad() {
				t.Fatalf("%x: Get(%d): %x, Left %d, not %x, %d", s, n, got, r.Left(), want, len(all))
			}
		}
	}
}

type putCase struct {
	v uint32
	n int
}

func written(l []putCase) *Writer {
	w := Write()
	for _, x := range l {
		w.Put(x.v, x.n)
	}
	return w
}

func checkText(t *testing.T, w *Writer, want string) {
	t.Helper()
	for range 2 { // asking does not change it
		if got := w.Text(); got != want {
			t.Fatalf("Text: %d bytes, %.40x, not %d, %.40x", len(got), got, len(want), want)
		}
	}
}

// P6.2: the highest bit of each byte first, within bytes and across their ends,
// with bits 0 up to a whole byte.
func TestPut(t *testing.T) {
	for _, x := range []struct {
		l    []putCase
		want string
	}{
		{nil, ""},
		{[]putCase{{5, 3}, {1, 1}}, "\xb0"},
		{[]putCase{{1, 1}}, "\x80"},
		{[]putCase{{0, 1}}, "\x00"},
		{[]putCase{{0, 7}, {1, 1}}, "\x01"},
		{[]putCase{{0, 8}, {1, 1}}, "\x00\x80"},
		{[]putCase{{0, 7}, {3, 2}}, "\x01\x80"},
		{[]putCase{{0, 7}, {3, 2}, {127, 7}}, "\x01\xff"},
		{[]putCase{{0x12345678, 32}}, "\x12\x34\x56\x78"},
		{[]putCase{{1, 4}, {0x23456789, 32}, {10, 4}}, "\x12\x34\x56\x78\x9a"},
		{[]putCase{{1, 4}, {0x23456789, 32}}, "\x12\x34\x56\x78\x90"},
		{[]putCase{{0, 1}, {1<<32 - 1, 32}}, "\x7f\xff\xff\xff\x80"},
		{[]putCase{{0, 7}, {1<<32 - 1, 32}}, "\x01\xff\xff\xff\xfe"},
		{[]putCase{{1<<31 - 1, 31}}, "\xff\xff\xff\xfe"},
		{[]putCase{{1<<31 - 1, 31}, {0, 1}, {1, 1}}, "\xff\xff\xff\xfe\x80"},
		{[]putCase{{1, 31}}, "\x00\x00\x00\x02"},
		{[]putCase{{1, 1}, {1, 31}}, "\x80\x00\x00\x01"},
		{[]putCase{{1, 32}, {1 << 31, 32}}, "\x00\x00\x00\x01\x80\x00\x00\x00"},
	} {
		checkText(t, written(x.l), x.want)
	}
}

// P6.2: no bits change nothing, whatever v is, also at the end of a byte.
func TestPutOfNone(t *testing.T) {
	checkText(t, written([]putCase{{1<<32 - 1, 0}}), "")
	checkText(t, written([]putCase{{1, 2}, {1<<32 - 1, 0}, {1, 2}}), "\x50")
	checkText(t, written([]putCase{{255, 8}, {1<<32 - 1, 0}}), "\xff")
}

// P6.2: of v only the lower bits count.
func TestPutCutsV(t *testing.T) {
	for n := 0; n <= 32; n++ {
		for ahead := range 9 {
			for _, v := range []uint32{0, 1, 1 << 31, 0xaaaaaaaa, 0x55555555, 1<<32 - 1} {
				over := v &^ uint32(1<<n-1)
				w := written([]putCase{{0, ahead}, {v, n}, {0, 3}})
				checkText(t, w, bytesOf(strings.Repeat("0", ahead)+lower(v, n)+"000"))
				checkText(t, written([]putCase{{0, ahead}, {over, n}, {0, 3}}), bytesOf(strings.Repeat("0", ahead+n+3)))
			}
		}
	}
}

// P6.2: counts that there are not write nothing, and what comes behind them goes on.
func TestPutWrong(t *testing.T) {
	for _, n := range wrongCounts {
		checkText(t, written([]putCase{{1<<32 - 1, n}}), "")
		checkText(t, written([]putCase{{5, 3}, {1<<32 - 1, n}, {1, 1}}), "\xb0")
		checkText(t, written([]putCase{{0xabcd, 16}, {1<<32 - 1, n}}), "\xab\xcd")
	}
}

// size is how many bits w has, asked by the place that the next bit takes.
func size(t *testing.T, w *Writer) int {
	t.Helper()
	w.Put(1, 1)
	s := digits(w.Text())
	return strings.LastIndex(s, "1")
}

// P6.2: bits 0 up to the next multiple, of all widths, behind bits of all counts.
func TestAlign(t *testing.T) {
	for n := 1; n <= 64; n++ {
		for all := range 130 {
			w := Write()
			for range all {
				w.Put(1, 1)
			}
			w.Align(n)
			want := all
			for want%n != 0 {
				want++
			}
			ones, zeros := strings.Repeat("1", all), strings.Repeat("0", want-all)
			checkText(t, w, bytesOf(ones+zeros))
			w.Align(n)
			checkText(t, w, bytesOf(ones+zeros))
			if got := size(t, w); got != want {
				t.Fatalf("Align(%d) of %d bits: %d, not %d", n, all, got, want)
			}
		}
	}
}

// P6.2: at a multiple, one bit more and one bit less.
func TestAlignBeside(t *testing.T) {
	for _, x := range []struct{ all, n, want int }{
		{0, 1, 0}, {1, 1, 1}, {7, 1, 7}, {64, 1, 64}, {65, 1, 65},
		{0, 64, 0}, {1, 64, 64}, {63, 64, 64}, {64, 64, 64}, {65, 64, 128}, {127, 64, 128},
		{0, 8, 0}, {7, 8, 8}, {8, 8, 8}, {9, 8, 16},
		{31, 32, 32}, {32, 32, 32}, {33, 32, 64},
		{2, 3, 3}, {3, 3, 3}, {4, 3, 6}, {62, 63, 63}, {63, 63, 63}, {64, 63, 126},
	} {
		w := Write()
		for range x.all {
			w.Put(1, 1)
		}
		w.Align(x.n)
		if got := size(t, w); got != x.want {
			t.Errorf("Align(%d) of %d bits: %d, not %d", x.n, x.all, got, x.want)
		}
	}
}

// P6.2: widths that there are not write nothing.
func TestAlignWrong(t *testing.T) {
	for _, n := range wrongWidths {
		for _, all := range []int{0, 1, 7, 8, 9, 31} {
			w := written([]putCase{{1<<32 - 1, all}})
			w.Align(n)
			checkText(t, w, bytesOf(strings.Repeat("1", all)))
			if got := size(t, w); got != all {
				t.Fatalf("Align(%d) of %d bits: %d", n, all, got)
			}
		}
	}
}

// P6.2: a Text within a byte, with more Puts behind it: the bits 0 that it was
// filled up with are not part of what was written, and it stays what it was.
func TestTextGoesOn(t *testing.T) {
	w := Write()
	checkText(t, w, "")
	w.Put(5, 3)
	first := w.Text()
	w.Put(31, 5)
	second := w.Text()
	w.Put(1, 1)
	third := w.Text()
	w.Align(4)
	w.Put(15, 4)
	if first != "\xa0" || second != "\xbf" || third != "\xbf\x80" {
		t.Errorf("%x, %x, %x", first, second, third)
	}
	checkText(t, w, "\xbf\x8f")
}

// P6.2: of nil, and two writers go each its own way.
func TestWriterNilAndApart(t *testing.T) {
	var none *Writer
	for _, n := range append([]int{0, 1, 8, 32}, wrongCounts...) {
		none.Put(1<<32-1, n)
		none.Align(n)
		checkText(t, none, "")
	}
	a, b := Write(), Write()
	a.Put(1, 8)
	b.Put(2, 8)
	a.Put(3, 8)
	checkText(t, a, "\x01\x03")
	checkText(t, b, "\x02")
}

// full is a writer that lacks so many bits to the greatest packet, and all its
// bits, which are 1.
func full(lacks int) (*Writer, string) {
	w := Write()
	all := room - lacks
	for range all / 32 {
		w.Put(1<<32-1, 32)
	}
	w.Put(1<<32-1, all%32)
	return w, strings.Repeat("1", all)
}

// P6.2: a Put that just fills it is written, one bit more writes nothing of it,
// and smaller ones behind that are written still.
func TestPutFull(t *testing.T) {
	for _, lacks := range []int{0, 1, 2, 7, 8, 9, 30, 31, 32} {
		w, all := full(lacks)
		w.Put(0xaaaaaaab, lacks)
		want := bytesOf(all + lower(0xaaaaaaab, lacks))
		if len(want) != api.MaxPacket {
			t.Fatal(len(want))
		}
		checkText(t, w, want)
		for n := range 34 {
			w.Put(1<<32-1, n)
			w.Put(0, n)
		}
		checkText(t, w, want)

		if lacks == 32 {
			continue
		}
		w, all = full(lacks)
		for n := lacks + 1; n <= 32; n++ {
			w.Put(1<<32-1, n)
		}
		checkText(t, w, bytesOf(all))
		for range lacks {
			w.Put(1, 1)
		}
		checkText(t, w, strings.Repeat("\xff", api.MaxPacket))
		w.Put(0, 1)
		checkText(t, w, strings.Repeat("\xff", api.MaxPacket))
	}
}

// P6.2: an Align that just fills it is written, also of more bits than a Put
// takes; one that would go beyond writes nothing.
func TestAlignFull(t *testing.T) {
	for _, lacks := range []int{0, 1, 2, 7, 8, 31, 32, 33, 62, 63} {
		w, all := full(lacks)
		w.Align(64)
		filled := bytesOf(all + strings.Repeat("0", lacks))
		checkText(t, w, filled)
		w.Put(1, 1)
		checkText(t, w, filled)

		for n := 1; n <= 64; n++ {
			w, all := full(lacks)
			w.Align(n)
			gap := (n - len(all)%n) % n
			if gap > lacks {
				gap = 0
			}
			for range lacks {
				w.Put(1, 1)
			}
			ones := strings.Repeat("1", lacks-gap)
			checkText(t, w, bytesOf(all+strings.Repeat("0", gap)+ones))
		}
	}
}

// P6.2: an Align that would go beyond by one bit (a multiple of 3 is next behind
// the greatest packet's bits), and smaller ones behind it.
func TestAlignBeyond(t *testing.T) {
	if (room+1)%3 != 0 {
		t.Fatal(room)
	}
	w, all := full(0)
	w.Align(3)
	checkText(t, w, bytesOf(all))

	w, all = full(1)
	w.Align(3)
	w.Put(1, 1)
	checkText(t, w, bytesOf(all+"1"))

	w, all = full(1)
	w.Align(3)
	w.Align(2)
	w.Put(1, 1)
	checkText(t, w, bytesOf(all+"0"))

	w, all = full(3)
	w.Align(3) // no further than to the multiple ahead of it
	w.Put(1, 1)
	w.Align(3)
	w.Align(8)
	checkText(t, w, bytesOf(all+"010"))
}

// act is one call of a writer's: a Put or an Align.
type act struct {
	align bool
	v     uint32
	n     int
}

func (a act) do(w *Writer) {
	if a.align {
		w.Align(a.n)
		return
	}
	w.Put(a.v, a.n)
}

// onLetters is what the act makes of the letters that were written so far.
func (a act) onLetters(all string) string {
	add := ""
	if a.align && a.n >= 1 && a.n <= 64 {
		add = strings.Repeat("0", (a.n-len(all)%a.n)%a.n)
	}
	if !a.align && a.n >= 0 && a.n <= 32 {
		add = lower(a.v, a.n)
	}
	if len(all)+len(add) > room {
		add = ""
	}
	return all + add
}

func anyAct(source *rand.Rand) act {
	if source.Intn(6) == 0 {
		return act{true, 0, source.Intn(68) - 2}
	}
	return act{false, source.Uint32(), source.Intn(37) - 2}
}

// P6.2: all of it, held against letters.
func TestPutExact(t *testing.T) {
	source := rand.New(rand.NewSource(62))
	for range 200 {
		w, all := Write(), ""
		for range 50 {
			a := anyAct(source)
			a.do(w)
			all = a.onLetters(all)
			checkText(t, w, bytesOf(all))
		}
	}
	for range 20 {
		w, all := full(source.Intn(200))
		for range 40 {
			a := anyAct(source)
			a.do(w)
			all = a.onLetters(all)
		}
		checkText(t, w, bytesOf(all))
	}
}

// P6.3: what was written is read, by the counts that it was written by.
func TestReadBack(t *testing.T) {
	source := rand.New(rand.NewSource(63))
	for range 300 {
		var l []putCase
		bits := 0
		for range source.Intn(80) {
			x := putCase{source.Uint32(), source.Intn(33)}
			l = append(l, x)
			bits += x.n
		}
		r := Read(written(l).Text())
		for i, x := range l {
			want := uint32(uint64(x.v) & (1<<x.n - 1))
			if got := r.Get(x.n); got != want || r.Bad() {
				t.Fatalf("%d: Get(%d): %x, not %x", i, x.n, got, want)
			}
		}
		spare := (8 - bits%8) % 8
		if r.Left() != spare || r.Get(spare) != 0 || r.Bad() {
			t.Fatalf("Left %d, not %d", r.Left(), spare)
		}
	}
}

// P6.3: and bit by bit, of all counts, from all places of a byte.
func TestReadBackBits(t *testing.T) {
	for ahead := range 9 {
		for n := 0; n <= 32; n++ {
			for _, v := range []uint32{0, 1, 1 << 31, 0x12345678, 0xdeadbeef, 1<<32 - 1} {
				r := Read(written([]putCase{{0, ahead}, {v, n}}).Text())
				r.Get(ahead)
				for i := n - 1; i >= 0; i-- {
					if got := r.Get(1); got != v>>i&1 {
						t.Fatalf("bit %d of %x behind %d: %d", i, v, ahead, got)
					}
				}
			}
		}
	}
}

// P6.3: what is read is written again as it was, up to the greatest packet.
func TestWriteBack(t *testing.T) {
	source := rand.New(rand.NewSource(64))
	for _, size := range []int{0, 1, 2, 3, 4, 5, 100, api.MaxPacket - 1, api.MaxPacket} {
		b := make([]byte, size)
		source.Read(b)
		r, w := Read(string(b)), Write()
		for r.Left() > 0 {
			n := min(source.Intn(33), r.Left())
			w.Put(r.Get(n), n)
		}
		if r.Bad() {
			t.Error(size)
		}
		checkText(t, w, string(b))
	}
}

// P6.3: bits that Align wrote are read as 0, and what comes behind them as it was.
func TestReadBackAligned(t *testing.T) {
	for n := 1; n <= 64; n++ {
		for ahead := range 33 {
			w := written([]putCase{{1<<32 - 1, ahead}})
			w.Align(n)
			w.Put(0xc0ffee11, 32)
			r := Read(w.Text())
			if got := r.Get(ahead); uint64(got) != 1<<ahead-1 {
				t.Fatalf("%d, %d: %x", n, ahead, got)
			}
			for at := ahead; at%n != 0; at++ {
				if r.Get(1) != 0 {
					t.Fatalf("%d, %d: bit %d", n, ahead, at)
				}
			}
			if got := r.Get(32); got != 0xc0ffee11 || r.Bad() {
				t.Fatalf("%d, %d: %x", n, ahead, got)
			}
		}
	}
}
