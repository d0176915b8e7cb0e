package nack

import (
	"encoding/binary"
	"fmt"
	"math"
	"math/rand"
	"slices"
	"strings"
	"testing"

	"flywheel/api"
)

// The bounds that a body and a list have, as the chapter's numbers.
const (
	longest = 65536
	most    = 4096
)

// head is what stands ahead of the entries of about.
const head = "sendmedi"

// pieces is each number as two bytes.
func pieces(l ...int) string {
	var b []byte
	for _, n := range l {
		b = binary.BigEndian.AppendUint16(b, uint16(n))
	}
	return string(b)
}

// about is these Lost behind known bytes.
func about(lost ...int) api.Nack {
	return api.Nack{Sender: 0x73656e64, Media: 0x6d656469, Lost: lost}
}

// from is n numbers, each step behind the one ahead of it.
func from(first, n, step int) []int {
	l := make([]int, n)
	for i := range l {
		l[i] = (first + i*step) % 65536
	}
	return l
}

type pair struct {
	n api.Nack
	s string
}

// laid is these Lost, and the body with these entries.
func laid(lost []int, entries ...int) pair { return pair{about(lost...), head + pieces(entries...)} }

// pairs are lists and their bodies, written out by hand.
func pairs() []pair {
	return []pair{
		{api.Nack{Lost: []int{0}}, "\x00\x00\x00\x00\x00\x00\x00\x00\x00\x00\x00\x00"},
		{
			api.Nack{Sender: 0x01020304, Media: 0xfffefdfc, Lost: []int{5, 6, 21}},
			"\x01\x02\x03\x04\xff\xfe\xfd\xfc\x00\x05\x80\x01",
		},
		{
			api.Nack{Sender: math.MaxUint32, Media: 1 << 31, Lost: []int{65535}},
			"\xff\xff\xff\xff\x80\x00\x00\x00\xff\xff\x00\x00",
		},
		{
			api.Nack{Sender: 1 << 31, Media: math.MaxUint32, Lost: []int{258, 260}},
			"\x80\x00\x00\x00\xff\xff\xff\xff\x01\x02\x00\x02",
		},
		laid([]int{5, 6}, 5, 1),
		laid([]int{5, 7}, 5, 2),
		laid([]int{5, 21}, 5, 0x8000),
		laid([]int{5, 22}, 5, 0, 22, 0),
		laid([]int{5, 21, 22}, 5, 0x8000, 22, 0),
		laid([]int{5, 6, 21, 22, 23, 38, 39}, 5, 0x8001, 22, 0x8001, 39, 0),
		laid([]int{5, 20, 36, 52}, 5, 0x4000, 36, 0x8000),
		laid([]int{0, 16, 32, 48}, 0, 0x8000, 32, 0x8000),
		laid([]int{0, 17, 34, 51}, 0, 0, 17, 0, 34, 0, 51, 0),
		laid(from(7, 16, 1), 7, 0x7fff),
		laid(from(7, 17, 1), 7, 0xffff),
		laid(from(7, 18, 1), 7, 0xffff, 24, 0),
		laid(from(7, 19, 1), 7, 0xffff, 24, 1),
		laid(from(7, 34, 1), 7, 0xffff, 24, 0xffff),
		laid(from(7, 35, 1), 7, 0xffff, 24, 0xffff, 41, 0),
		laid(from(0, 9, 2), 0, 0xaaaa),
		laid([]int{65535, 0}, 65535, 1),
		laid([]int{65535, 0, 15}, 65535, 0x8001),
		laid([]int{65535, 0, 16}, 65535, 1, 16, 0),
		laid([]int{65534, 65535, 0, 14, 15}, 65534, 0x8003, 15, 0),
		laid([]int{65520, 0}, 65520, 0x8000),
		laid([]int{65519, 0}, 65519, 0, 0, 0),
		laid([]int{65530, 10, 11}, 65530, 0x8000, 11, 0),
		laid([]int{32767, 32768}, 32767, 1),
		laid([]int{0, 32767}, 0, 0, 32767, 0),
		laid([]int{0, 32751, 32767}, 0, 0, 32751, 0x8000),
		laid([]int{1, 32768}, 1, 0, 32768, 0),
		laid([]int{32768, 65535}, 32768, 0, 65535, 0),
		laid([]int{32769, 0}, 32769, 0, 0, 0),
		laid([]int{65535, 32766}, 65535, 0, 32766, 0),
		laid([]int{40000, 60000, 65535, 0, 7231}, 40000, 0, 60000, 0, 65535, 1, 7231, 0),
	}
}

// equal is whether a and b are one; nil and empty lists are.
func equal(a, b api.Nack) bool {
	return a.Sender == b.Sender && a.Media == b.Media && slices.Equal(a.Lost, b.Lost)
}

// shown is n as a text that is not too long to be read.
func shown(n api.Nack) string { return fmt.Sprintf("%.400s", fmt.Sprintf("%+v", n)) }

func checkEncode(t *testing.T, n api.Nack, want string) {
	t.Helper()
	if s, e := Encode(n); s != want || e != api.OK {
		t.Fatalf("Encode(%s): %.300x, %v, not %.300x", shown(n), s, e, want)
	}
}

// checkBad is for what is no list.
func checkBad(t *testing.T, lost []int) {
	t.Helper()
	if s, e := Encode(about(lost...)); s != "" || e != api.ErrArg {
		t.Fatalf("Encode(%s): %.300x, %v", shown(about(lost...)), s, e)
	}
}

func checkDecode(t *testing.T, s string, want api.Nack) {
	t.Helper()
	if n, e := Decode(s); !equal(n, want) || e != api.OK {
		t.Fatalf("Decode(%.300x): %s, %v, not %s", s, shown(n), e, shown(want))
	}
}

func checkWrong(t *testing.T, s string, want api.Errno) {
	t.Helper()
	if n, e := Decode(s); !equal(n, api.Nack{}) || n.Lost != nil || e != want {
		t.Fatalf("Decode of %d bytes, %.300x: %s, %v, not %v", len(s), s, shown(n), e, want)
	}
}

// plainList is whether l is a list, by a plain reading of the chapter.
func plainList(l []int) bool {
	if len(l) < 1 || len(l) > 4096 {
		return false
	}
	for i, v := range l {
		if v < 0 || v > 65535 {
			return false
		}
		if (v-l[0]+65536)%65536 >= 32768 {
			return false
		}
		if i > 0 && ((v-l[i-1]+65536)%65536 == 0 || (v-l[i-1]+65536)%65536 >= 32768) {
			return false
		}
	}
	return true
}

// plain is the body of n by a plain reading of the chapter.
func plain(n api.Nack) string {
	b := binary.BigEndian.AppendUint32(nil, n.Sender)
	b = binary.BigEndian.AppendUint32(b, n.Media)
	asked := map[int]bool{}
	for _, v := range n.Lost {
		asked[v] = true
	}
	for _, v := range n.Lost {
		if !asked[v] {
			continue
		}
		asked[v] = false
		mask := 0
		for i := range 16 {
			if next := (v + i + 1) % 65536; asked[next] {
				asked[next] = false
				mask += 1 << i
			}
		}
		b = append(b, pieces(v, mask)...)
	}
	return string(b)
}

// told is what a plain reading of the chapter tells of s.
func told(s string) (n api.Nack, e api.Errno) {
	var none api.Nack
	switch {
	case len(s) > 65536:
		return none, api.ErrLong
	case len(s)%4 != 0:
		return none, api.ErrCount
	case len(s) < 12:
		return none, api.ErrShort
	}
	b := []byte(s)
	n = api.Nack{Sender: binary.BigEndian.Uint32(b), Media: binary.BigEndian.Uint32(b[4:])}
	for i := 8; i < len(b); i += 4 {
		v, mask := int(b[i])*256+int(b[i+1]), int(b[i+2])*256+int(b[i+3])
		n.Lost = append(n.Lost, v)
		for k := range 16 {
			if mask%2 == 1 {
				n.Lost = append(n.Lost, (v+k+1)%65536)
			}
			mask /= 2
		}
	}
	switch {
	case len(n.Lost) > 4096:
		return none, api.ErrMany
	case !plainList(n.Lost):
		return none, api.ErrList
	}
	return n, api.OK
}

// checkTold holds Decode against the plain reading, and, P11.3, reads again what
// Encode writes of it.
func checkTold(t *testing.T, s string) api.Errno {
	t.Helper()
	n, e := Decode(s)
	want, err := told(s)
	if !equal(n, want) || e != err {
		t.Fatalf("Decode(%.300x): %s, %v, not %s, %v", s, shown(n), e, shown(want), err)
	}
	if e == api.OK {
		checkEncode(t, n, plain(n))
		checkDecode(t, plain(n), n)
	}
	return e
}

// P11.1: the bodies of lists.
func TestEncode(t *testing.T) {
	for _, x := range pairs() {
		checkEncode(t, x.n, x.s)
	}
}

// P11.1: two numbers at every distance: up to 16 in one entry, up to 32767 in
// two, beyond that, and 0, no list.
func TestEncodeDistances(t *testing.T) {
	for _, first := range []int{0, 1, 2, 32767, 32768, 32769, 65519, 65520, 65534, 65535} {
		for d := range 65536 {
			l := []int{first, (first + d) % 65536}
			switch {
			case d == 0 || d >= 32768:
				checkBad(t, l)
			case d <= 16:
				checkEncode(t, about(l...), head+pieces(first, 1<<(d-1)))
			default:
				checkEncode(t, about(l...), head+pieces(l[0], 0, l[1], 0))
			}
		}
	}
}

// P11.1, P11.2: every number alone, and every one that the mask's last bit tells of.
func TestEncodeNumbers(t *testing.T) {
	for v := range 65536 {
		for _, x := range []pair{laid([]int{v}, v, 0), laid([]int{v, (v + 16) % 65536}, v, 0x8000)} {
			checkEncode(t, x.n, x.s)
			checkDecode(t, x.s, x.n)
		}
	}
}

// P11.1, P11.2: Senders and Medias of single bits.
func TestFields(t *testing.T) {
	for i := range 32 {
		v := uint32(1) << i
		for _, n := range []api.Nack{{Sender: v, Lost: []int{9}}, {Media: v, Lost: []int{9}}, {Sender: v, Media: ^v, Lost: []int{9}}} {
			s := string(binary.BigEndian.AppendUint32(binary.BigEndian.AppendUint32(nil, n.Sender), n.Media)) + pieces(9, 0)
			checkEncode(t, n, s)
			checkDecode(t, s, n)
		}
	}
}

// P11.1: an entry begins at the first one that the entry ahead does not tell of,
// not at a round place.
func TestEncodeEntries(t *testing.T) {
	for first := 65400; first < 65536+20; first++ {
		for gap := 1; gap <= 40; gap++ {
			n := about(from(first%65536, 60, gap)...)
			checkEncode(t, n, plain(n))
			entries := (60*gap - 1) / (gap + 16/gap*gap)
			if s, _ := Encode(n); len(s) != 8+4*(entries+1) {
				t.Fatalf("%d, %d: %d bytes, not %d entries", first, gap, len(s), entries+1)
			}
		}
	}
}

// P11.1: as many as there may be, all in a row and as far apart as they may be,
// and one more.
func TestEncodeMany(t *testing.T) {
	for _, step := range []int{1, 2, 3, 5, 7, 8} {
		for _, first := range []int{0, 1, 32767, 32768, 40000, 65535} {
			n := about(from(first, most, step)...)
			checkEncode(t, n, plain(n))
			checkDecode(t, plain(n), n)
			n = about(from(first, most-1, step)...)
			checkEncode(t, n, plain(n))
			for _, k := range []int{most + 1, most + 2, most + 16} {
				checkBad(t, from(first, k, step))
			}
		}
	}
	if s, _ := Encode(about(from(0, most, 1)...)); len(s) != 8+4*241 {
		t.Error(len(s))
	}
	checkBad(t, from(0, most, 9))
	for _, k := range []int{2 * most, 32768, 65535, 65536, 65537, 1 << 20} {
		checkBad(t, from(0, k, 1))
		checkBad(t, make([]int, k))
	}
}

// P11.1: no Lost is no list.
func TestEncodeEmpty(t *testing.T) {
	for _, l := range [][]int{nil, {}, make([]int, 0, 9), {9}} {
		checkBad(t, l[:0])
	}
	if s, e := Encode(api.Nack{}); s != "" || e != api.ErrArg {
		t.Errorf("%x, %v", s, e)
	}
}

// P11.1: numbers that are none, wherever they stand, also such whose lower bits
// would do.
func TestEncodeWrongNumbers(t *testing.T) {
	for _, v := range []int{math.MinInt, math.MinInt + 1, math.MinInt + 6, -1 << 32, -1<<32 + 6, -65536, -65535, -65530, -2, -1, 65536, 65537, 65542, 131071, 131072, 1 << 31, 1 << 32, 1<<32 + 6, 1 << 62, math.MaxInt - 1, math.MaxInt} {
		checkBad(t, []int{v})
		checkBad(t, []int{v, v + 1})
		checkBad(t, []int{v, 7})
		for i := range 5 {
			for _, l := range [][]int{from(4, 5, 1), from(65533, 5, 1), from(4, 5, 100)} {
				l[i] = v
				checkBad(t, l)
			}
		}
		checkBad(t, append(from(0, most-1, 1), v))
	}
}

// P11.1: numbers that stand twice, fall, or have gone round, within an entry's
// reach and beyond it.
func TestEncodeWrongOrder(t *testing.T) {
	for _, l := range [][]int{
		{5, 5}, {6, 5}, {5, 6, 6}, {5, 6, 5}, {5, 7, 6}, {0, 65535}, {65535, 65535}, {0, 0},
		{0, 32768}, {1, 32769}, {65535, 32767}, {32768, 0},
		{0, 20000, 32768}, {0, 20000, 40000}, {0, 32767, 32768}, {0, 1, 32768}, {0, 32767, 65534},
		{0, 32767, 65534, 65535}, {0, 32767, 65534, 1}, {0, 20000, 40000, 60000, 14464},
		{0, 30000, 60000, 24464, 30001}, {65535, 32766, 32767}, {40000, 65535, 0, 7232},
		{5, 100, 99}, {5, 100, 100}, {5, 100, 5}, {5, 100, 4}, {5, 100, 22, 101},
	} {
		checkBad(t, l)
	}
	for i := 1; i < 40; i++ {
		l := from(65520, 40, 1)
		l[i] = l[i-1]
		checkBad(t, l)
		l = from(65520, 40, 1)
		l[i], l[i-1] = l[i-1], l[i]
		checkBad(t, l)
		l = from(65520, 40, 30)
		l[i] = l[0]
		checkBad(t, l)
		l = from(65520, 40, 1)
		checkBad(t, slices.Insert(l, i, (l[0]+32768)%65536))
	}
}

// P11.1: any three numbers of some that lie at the bounds, held against the plain
// reading.
func TestEncodeThree(t *testing.T) {
	near := []int{-1, 0, 1, 2, 15, 16, 17, 18, 32766, 32767, 32768, 32769, 32783, 32784, 65519, 65520, 65521, 65534, 65535, 65536}
	for _, a := range near {
		for _, b := range near {
			for _, c := range near {
				if l := []int{a, b, c}; plainList(l) {
					checkEncode(t, about(l...), plain(about(l...)))
				} else {
					checkBad(t, l)
				}
			}
		}
	}
}

// P11.1: what is handed in is not changed, its spare room included, and asking
// twice answers the same.
func TestEncodeLeaves(t *testing.T) {
	lost := []int{65530, 65535, 0, 10, 11, 30, 7, 7, 7}
	was := slices.Clone(lost)
	first, _ := Encode(about(lost[:6]...))
	second, _ := Encode(about(lost[:6]...))
	if want := plain(about(lost[:6]...)); first != want || second != want {
		t.Errorf("%x, %x", first, second)
	}
	if !slices.Equal(lost, was) {
		t.Error(lost)
	}
}

// P11.2: lists, as they were written out.
func TestDecode(t *testing.T) {
	for _, x := range pairs() {
		checkDecode(t, x.s, x.n)
	}
}

// P11.2: every mask there is, of numbers here and there, the last one of which
// goes round within it.
func TestDecodeMasks(t *testing.T) {
	for mask := range 65536 {
		for _, v := range []int{0, 5, 32760, 65519, 65527, 65535} {
			s := head + pieces(v, mask)
			if e := checkTold(t, s); e != api.OK {
				t.Fatalf("%x: %v", s, e)
			}
			n, _ := Decode(s)
			checkEncode(t, n, s)
		}
	}
}

// P11.2: entries are read, however a list is laid.
func TestDecodeLaid(t *testing.T) {
	for _, x := range []pair{
		laid([]int{5, 6}, 5, 0, 6, 0),
		laid([]int{5, 6, 7}, 5, 1, 7, 0),
		laid([]int{5, 6, 7}, 5, 0, 6, 1),
		laid([]int{5, 6, 7}, 5, 0, 6, 0, 7, 0),
		laid([]int{5, 21}, 5, 0, 21, 0),
		laid([]int{65535, 0, 1}, 65535, 0, 0, 1),
		laid([]int{65535, 0, 1}, 65535, 1, 1, 0),
		laid([]int{0, 32767}, 0, 0, 32767, 0),
		laid([]int{0, 32766, 32767}, 0, 0, 32766, 1),
		laid(from(60000, most, 1), func() (l []int) {
			for _, v := range from(60000, most, 1) {
				l = append(l, v, 0)
			}
			return l
		}()...),
	} {
		checkDecode(t, x.s, x.n)
	}
}

// P11.2: what an entry tells is held against what those ahead told, and against
// the first number.
func TestDecodeWrongList(t *testing.T) {
	for _, entries := range [][]int{
		{5, 0, 5, 0},
		{5, 1, 6, 0},
		{5, 1, 5, 0},
		{5, 0x8000, 6, 0},
		{5, 0x8000, 21, 0},
		{5, 0x8000, 20, 1},
		{6, 0, 5, 0},
		{6, 0, 5, 1},
		{0, 0, 65535, 0},
		{0, 0, 65535, 1},
		{65535, 1, 0, 0},
		{65535, 2, 0, 0},
		{0, 0, 32768, 0},
		{0, 0, 32767, 1},
		{0, 0, 32752, 0x8000},
		{1, 0, 32768, 1},
		{65535, 0, 32767, 0},
		{65535, 0, 32766, 1},
		{0, 0, 20000, 0, 40000, 0},
		{0, 0, 32767, 0, 65534, 0, 1, 0},
		{0, 0, 20000, 0, 20000, 0},
	} {
		checkWrong(t, head+pieces(entries...), api.ErrList)
		checkWrong(t, head+pieces(append(entries, 9999, 9)...), api.ErrList)
	}
}

// P11.2: more than there may be is told ahead of what is no list; just as many
// as there may be is not more.
func TestDecodeMany(t *testing.T) {
	checkWrong(t, head+strings.Repeat(pieces(5, 0xffff), 241), api.ErrMany)
	checkWrong(t, head+strings.Repeat(pieces(5, 0xffff), 240), api.ErrList)
	checkWrong(t, head+strings.Repeat(pieces(5, 0), most), api.ErrList)
	checkWrong(t, head+strings.Repeat(pieces(5, 0), most+1), api.ErrMany)
	checkWrong(t, head+strings.Repeat(pieces(5, 0xffff), 240)+strings.Repeat(pieces(9, 0), 16), api.ErrList)
	checkWrong(t, head+strings.Repeat(pieces(5, 0xffff), 240)+strings.Repeat(pieces(9, 0), 17), api.ErrMany)
	full := plain(about(from(65000, most, 1)...))
	checkDecode(t, full, about(from(65000, most, 1)...))
	next := (65000 + most) % 65536
	checkWrong(t, full+pieces(next, 0), api.ErrMany)
	checkWrong(t, full+pieces(65000, 0), api.ErrMany)
	checkWrong(t, full+pieces(next, 0xffff), api.ErrMany)
	less := plain(about(from(65000, most-1, 1)...))
	checkDecode(t, less+pieces(next-1, 0), about(from(65000, most, 1)...))
	checkWrong(t, less+pieces(next-1, 1), api.ErrMany)
	checkWrong(t, less+pieces(next-1, 0x8000), api.ErrMany)
	checkWrong(t, less+pieces(65000, 0), api.ErrList)
	for _, mask := range []int{0, 1, 0x8000, 0xffff} {
		long := strings.Repeat(pieces(7, mask), (longest-8)/4)
		checkWrong(t, head+long, api.ErrMany)
	}
}

// P11.2: bodies of all lengths, by what their length alone tells.
func TestDecodeLengths(t *testing.T) {
	for _, fill := range []string{"\x00", "\x01", "\x80", "\xff"} {
		for n := range 300 {
			if n%4 != 0 {
				checkWrong(t, strings.Repeat(fill, n), api.ErrCount)
			} else if n < 12 {
				checkWrong(t, strings.Repeat(fill, n), api.ErrShort)
			} else {
				checkTold(t, strings.Repeat(fill, n))
			}
		}
		for n := 1; n < 4; n++ {
			checkWrong(t, strings.Repeat(fill, longest-n), api.ErrCount)
		}
		checkWrong(t, strings.Repeat(fill, longest), api.ErrMany)
		for _, n := range []int{1, 2, 3, 4, 5, 8, 65536, 1 << 20} {
			checkWrong(t, strings.Repeat(fill, longest+n), api.ErrLong)
		}
	}
	checkWrong(t, "", api.ErrShort)
	for _, x := range pairs() {
		for n := range len(x.s) {
			checkTold(t, x.s[:n])
			checkTold(t, x.s+x.s[:n])
		}
	}
}

// P11.2: what is told is new memory, its spare room too.
func TestDecodeNew(t *testing.T) {
	s := plain(about(from(65000, 100, 3)...))
	a, _ := Decode(s)
	b, _ := Decode(s)
	room := a.Lost[:cap(a.Lost)]
	for i := range room {
		room[i] = -1
	}
	if !slices.Equal(b.Lost, from(65000, 100, 3)) {
		t.Error(b.Lost)
	}
	checkDecode(t, s, about(from(65000, 100, 3)...))
}

// some is a list by chance, of at most so many numbers, which are often near each
// other.
func some(source *rand.Rand, most int) api.Nack {
	n := api.Nack{Sender: source.Uint32(), Media: source.Uint32()}
	many := 1 + source.Intn(most)
	wide := 1 + source.Intn(1+source.Intn(1+32767/many*2))
	first := source.Intn(65536)
	if source.Intn(3) == 0 {
		first = (65536 - source.Intn(40)) % 65536
	}
	for d := 0; d < 32768 && len(n.Lost) < many; d += 1 + source.Intn(wide) {
		n.Lost = append(n.Lost, (first+d)%65536)
	}
	return n
}

// P11.1, P11.3: lists of all sorts: their bodies, and these read again.
func TestBack(t *testing.T) {
	source := rand.New(rand.NewSource(11))
	for i := range 30000 {
		size := 40
		if i%100 == 0 {
			size = most
		}
		n := some(source, size)
		checkEncode(t, n, plain(n))
		checkDecode(t, plain(n), n)
	}
	for _, x := range pairs() {
		s, _ := Encode(x.n)
		checkDecode(t, s, x.n)
	}
}

// P11.1: lists with a number made another one, held against the plain reading.
func TestEncodeExact(t *testing.T) {
	source := rand.New(rand.NewSource(111))
	seen := [2]int{}
	for range 100000 {
		n := some(source, 20)
		i := source.Intn(len(n.Lost))
		switch source.Intn(4) {
		case 0:
			n.Lost[i] = source.Intn(65536+20) - 10
		case 1:
			n.Lost[i] += source.Intn(5) - 2
		case 2:
			n.Lost = slices.Insert(n.Lost, i, (n.Lost[0]+32766+source.Intn(4))%65536)
		}
		if plainList(n.Lost) {
			seen[0]++
			checkEncode(t, n, plain(n))
		} else {
			seen[1]++
			checkBad(t, n.Lost)
		}
	}
	if min(seen[0], seen[1]) < 10000 {
		t.Error(seen)
	}
}

// P11.2: bodies with a bit turned, a word put in or taken out, or cut off, held
// against the plain reading.
func TestDecodeExact(t *testing.T) {
	source := rand.New(rand.NewSource(112))
	seen := map[api.Errno]int{}
	for range 100000 {
		b := []byte(plain(some(source, 1+source.Intn(40))))
		for range source.Intn(3) {
			b[8+source.Intn(len(b)-8)] ^= 1 << source.Intn(8)
		}
		at := source.Intn(len(b)/4) * 4
		switch source.Intn(8) {
		case 0:
			b = b[:source.Intn(len(b)+1)]
		case 1:
			b = slices.Delete(b, at, at+4)
		case 2:
			b = slices.Insert(b, at, byte(source.Intn(256)), byte(source.Intn(256)), 0, byte(source.Intn(4)))
		}
		seen[checkTold(t, string(b))]++
	}
	for range 500 {
		n := some(source, most)
		seen[checkTold(t, plain(n)+strings.Repeat(pieces(source.Intn(65536), source.Intn(65536)), source.Intn(600)))]++
	}
	for _, e := range []api.Errno{api.OK, api.ErrCount, api.ErrShort, api.ErrMany, api.ErrList} {
		if seen[e] < 100 {
			t.Error(e, seen[e])
		}
	}
}

// P11.2: bytes by chance, of all lengths.
func TestDecodeAny(t *testing.T) {
	source := rand.New(rand.NewSource(113))
	for range 20000 {
		b := make([]byte, source.Intn(60))
		source.Read(b)
		checkTold(t, string(b))
		for i := range b {
			if source.Intn(4) > 0 {
				b[i] = byte(source.Intn(3))
			}
		}
		checkTold(t, string(b))
	}
	for _, n := range []int{longest - 4, longest - 1, longest, longest + 1} {
		b := make([]byte, n)
		source.Read(b)
		checkTold(t, string(b))
	}
}

// P11.1, P11.2: the calls keep nothing: an answer is the same whatever came between.
func TestKeepsNothing(t *testing.T) {
	for _, x := range pairs() {
		checkEncode(t, x.n, x.s)
		checkDecode(t, x.s, x.n)
		checkBad(t, []int{5, 5})
		checkWrong(t, x.s+"x", api.ErrCount)
		checkWrong(t, x.s+x.s[8:], api.ErrList)
		checkEncode(t, x.n, x.s)
		checkDecode(t, x.s, x.n)
	}
}
