package rtcp

import (
	"fmt"
	"math"
	"math/rand"
	"slices"
	"strings"
	"testing"
	"unsafe"

	"flywheel/api"
)

// The longest Body of a part, and the longest one that a message holds.
const (
	longPart    = 4 * 65535
	longMessage = api.MaxPacket - 4
)

// head is the four bytes with which a part begins.
func head(first, kind, words int) string {
	return string([]byte{byte(first), byte(kind), byte(words >> 8), byte(words)})
}

// text is n bytes, none of them 0.
func text(n int) string {
	return strings.Repeat("\xf1\x2e\xd3\x4c\xb5\x6a\x97\x88", n/8+1)[:n]
}

// padding is n bytes, of which the last one is last.
func padding(n, last int) string {
	return text(n-1) + string([]byte{byte(last)})
}

type pair struct {
	l []api.Part
	s string
}

// pairs are parts and their messages, written out by hand.
func pairs() []pair {
	return []pair{
		{[]api.Part{{Count: 11, Type: 205}}, "\x8b\xcd\x00\x00"},
		{[]api.Part{{Count: 0, Type: 192}}, "\x80\xc0\x00\x00"},
		{[]api.Part{{Count: 31, Type: 223}}, "\x9f\xdf\x00\x00"},
		{[]api.Part{{Count: 1, Type: 200, Body: "abcd"}}, "\x81\xc8\x00\x01abcd"},
		{[]api.Part{{Count: 30, Type: 201, Body: "\x00\x00\x00\x00"}}, "\x9e\xc9\x00\x01\x00\x00\x00\x00"},
		{[]api.Part{{Count: 15, Type: 205, Body: "\xff\xff\xff\xff\xff\xff\xff\xff"}}, "\x8f\xcd\x00\x02\xff\xff\xff\xff\xff\xff\xff\xff"},
		{[]api.Part{{Count: 16, Type: 222, Body: "\x80\xc8\x00\x01"}}, "\x90\xde\x00\x01\x80\xc8\x00\x01"},
		{[]api.Part{{Type: 193, Body: "\x00\x00\x00\x04"}}, "\x80\xc1\x00\x01\x00\x00\x00\x04"},
		{[]api.Part{{Type: 200}, {Type: 200}}, "\x80\xc8\x00\x00\x80\xc8\x00\x00"},
		{[]api.Part{{Count: 2, Type: 201, Body: "abcdefgh"}, {Type: 200}, {Count: 31, Type: 192, Body: "ijkl"}}, "\x82\xc9\x00\x02abcdefgh\x80\xc8\x00\x00\x9f\xc0\x00\x01ijkl"},
		{[]api.Part{{Type: 223}, {Count: 31, Type: 223, Body: text(12)}, {Count: 5, Type: 210}}, "\x80\xdf\x00\x00\x9f\xdf\x00\x03" + text(12) + "\x85\xd2\x00\x00"},
		{[]api.Part{{Type: 200, Body: text(1020)}}, "\x80\xc8\x00\xff" + text(1020)},
		{[]api.Part{{Type: 200, Body: text(1024)}}, "\x80\xc8\x01\x00" + text(1024)},
	}
}

// full are messages of just MaxPacket bytes: one part, two, and as many as there may be.
func full() []pair {
	return []pair{
		{[]api.Part{{Count: 7, Type: 199, Body: text(longMessage)}}, "\x87\xc7\x3f\xff" + text(longMessage)},
		{[]api.Part{{Type: 200, Body: text(longMessage - 4)}, {Type: 201}}, "\x80\xc8\x3f\xfe" + text(longMessage-4) + "\x80\xc9\x00\x00"},
		{[]api.Part{{Type: 200, Body: "abcd"}, {Type: 201, Body: text(longMessage - 8)}}, "\x80\xc8\x00\x01abcd\x80\xc9\x3f\xfd" + text(longMessage-8)},
		{slices.Repeat([]api.Part{{Count: 3, Type: 203}}, api.MaxPacket/4), strings.Repeat("\x83\xcb\x00\x00", api.MaxPacket/4)},
	}
}

// shown is l as a text that is not too long to be read.
func shown(l []api.Part) string { return fmt.Sprintf("%.400q", fmt.Sprintf("%+v", l)) }

func checkJoin(t *testing.T, l []api.Part, want string) {
	t.Helper()
	if s, e := Join(l); s != want || e != api.OK {
		t.Fatalf("Join(%s): %.300x, %v, not %.300x", shown(l), s, e, want)
	}
}

func checkRefused(t *testing.T, l []api.Part, want api.Errno) {
	t.Helper()
	if s, e := Join(l); s != "" || e != want {
		t.Fatalf("Join of %d parts: %d bytes, %v, not %v", len(l), len(s), e, want)
	}
}

func checkSplit(t *testing.T, s string, want []api.Part) {
	t.Helper()
	if l, e := Split(s); !slices.Equal(l, want) || e != api.OK {
		t.Fatalf("Split(%.300x): %s, %v, not %s", s, shown(l), e, shown(want))
	}
}

func checkWrong(t *testing.T, s string, want api.Errno) {
	t.Helper()
	if l, e := Split(s); len(l) != 0 || e != want {
		t.Fatalf("Split(%.300x): %s, %v, not %v", s, shown(l), e, want)
	}
}

// P8.1: the bits of messages, those of the document's example among them.
func TestJoin(t *testing.T) {
	for _, x := range pairs() {
		checkJoin(t, x.l, x.s)
	}
}

// P8.1: every Count with every Type stands where it should, the third bit 0.
func TestJoinEach(t *testing.T) {
	for count := range 32 {
		for kind := 192; kind <= 223; kind++ {
			checkJoin(t, []api.Part{{Count: count, Type: kind, Body: "abcd"}}, head(128+count, kind, 1)+"abcd")
		}
	}
}

// P8.1: every length of a Body that a message holds, by its words.
func TestJoinLengths(t *testing.T) {
	all := text(longMessage)
	for words := 0; words <= longMessage/4; words += 1 + words/40 {
		checkJoin(t, []api.Part{{Type: 200, Body: all[:4*words]}}, head(128, 200, words)+all[:4*words])
	}
}

// P8.1: messages of just MaxPacket bytes, and of one word more.
func TestJoinFull(t *testing.T) {
	for _, x := range full() {
		checkJoin(t, x.l, x.s)
		for _, i := range []int{0, len(x.l) - 1} {
			more := slices.Clone(x.l)
			more[i].Body += "abcd"
			checkRefused(t, more, api.ErrLong)
		}
		checkRefused(t, append(slices.Clone(x.l), api.Part{Type: 200}), api.ErrLong)
		checkRefused(t, append([]api.Part{{Type: 200}}, x.l...), api.ErrLong)
	}
}

// P8.1: no parts.
func TestJoinNone(t *testing.T) {
	checkRefused(t, nil, api.ErrArg)
	checkRefused(t, []api.Part{}, api.ErrArg)
	checkRefused(t, make([]api.Part, 0, 9), api.ErrArg)
	checkRefused(t, []api.Part{{Type: 200}}[:0], api.ErrArg)
}

// wrongParts are parts that can't be: each field just beyond what it may be, and
// far from it, also where its lower bits would do.
func wrongParts() []api.Part {
	var l []api.Part
	wild := []int{math.MinInt, math.MinInt + 1, -1 << 32, -1<<32 + 200, -65536, -256, -56, -32, -1, 1 << 31, 1 << 32, 1<<32 + 1, 1<<32 + 200, 1 << 62, math.MaxInt - 1, math.MaxInt}
	for _, n := range append([]int{32, 33, 63, 64, 128, 255, 256}, wild...) {
		l = append(l, api.Part{Count: n, Type: 200, Body: "abcd"})
	}
	for _, n := range append([]int{0, 1, 31, 128, 190, 191, 224, 225, 255, 256, 448, 456, 65536 + 200}, wild...) {
		l = append(l, api.Part{Count: 1, Type: n, Body: "abcd"})
	}
	for _, n := range []int{1, 2, 3, 5, 6, 7, 9, 1021, longMessage - 1, longMessage + 1, longPart - 1, longPart + 1, longPart + 4, longPart + 8, 2*longPart + 4, 1 << 20} {
		l = append(l, api.Part{Count: 1, Type: 200, Body: text(n)})
	}
	return append(l, api.Part{}, api.Part{Count: 32, Type: 191, Body: "a"})
}

// P8.1: one part that can't be is enough, wherever it stands.
func TestJoinWrong(t *testing.T) {
	good := api.Part{Count: 31, Type: 223, Body: "abcd"}
	for _, p := range wrongParts() {
		checkRefused(t, []api.Part{p}, api.ErrArg)
		checkRefused(t, []api.Part{p, p}, api.ErrArg)
		checkRefused(t, []api.Part{p, good}, api.ErrArg)
		checkRefused(t, []api.Part{good, p}, api.ErrArg)
		checkRefused(t, []api.Part{good, p, good}, api.ErrArg)
	}
}

// P8.1: parts that are too long together, be it the longest ones, or many.
func TestJoinLong(t *testing.T) {
	longest := api.Part{Type: 200, Body: text(longPart)}
	checkRefused(t, []api.Part{longest}, api.ErrLong)
	checkRefused(t, slices.Repeat([]api.Part{longest}, 1<<15), api.ErrLong)
	checkRefused(t, []api.Part{{Type: 200, Body: text(longPart - 4)}}, api.ErrLong)
	checkRefused(t, []api.Part{{Type: 200, Body: text(longMessage + 4)}}, api.ErrLong)
	checkRefused(t, slices.Repeat([]api.Part{{Type: 200}}, 1<<18), api.ErrLong)
	checkRefused(t, slices.Repeat([]api.Part{{Type: 200, Body: text(32768)}}, 2), api.ErrLong)
}

// P8.1: a part that can't be is told though all are too long, and though that is
// plain ahead of it.
func TestJoinWrongAndLong(t *testing.T) {
	long := []api.Part{{Type: 200, Body: text(longMessage)}, {Type: 200, Body: text(longPart)}}
	for _, p := range wrongParts() {
		checkRefused(t, append([]api.Part{p}, long...), api.ErrArg)
		checkRefused(t, append(slices.Clone(long), p), api.ErrArg)
		checkRefused(t, []api.Part{long[0], p, long[1]}, api.ErrArg)
	}
	many := slices.Repeat([]api.Part{{Type: 200}}, 1<<15)
	many[len(many)-1].Count = 32
	checkRefused(t, many, api.ErrArg)
}

// P8.1: what is handed in is not changed, its spare room included.
func TestJoinLeaves(t *testing.T) {
	l := slices.Clone(pairs()[9].l)
	first, _ := Join(l[:2])
	second, _ := Join(l[:2])
	if first != second || !slices.Equal(l, pairs()[9].l) {
		t.Errorf("%x, %x, %s", first, second, shown(l))
	}
}

// P8.2: messages, as they were written out.
func TestSplit(t *testing.T) {
	for _, x := range append(pairs(), full()...) {
		checkSplit(t, x.s, x.l)
	}
}

// P8.2: every message cut off at every byte is too short, but where a part ends:
// there it is the parts ahead.
func TestSplitCut(t *testing.T) {
	for _, x := range pairs() {
		ends := map[int]int{}
		at := 0
		for i, p := range x.l {
			at += 4 + len(p.Body)
			ends[at] = i + 1
		}
		for n := range len(x.s) {
			if ends[n] > 0 {
				checkSplit(t, x.s[:n], x.l[:ends[n]])
			} else {
				checkWrong(t, x.s[:n], api.ErrShort)
			}
		}
	}
	long := full()[0].s
	for n := range 9 {
		checkWrong(t, long[:n], api.ErrShort)
		checkWrong(t, long[:len(long)-n-1], api.ErrShort)
	}
}

// P8.2: a padded message cut off at every byte.
func TestSplitCutPadded(t *testing.T) {
	s := head(0x81, 200, 1) + "abcd" + head(0xa2, 201, 4) + "efgh" + padding(12, 12)
	checkSplit(t, s, []api.Part{{Count: 1, Type: 200, Body: "abcd"}, {Count: 2, Type: 201, Body: "efgh"}})
	for n := range len(s) {
		if n != 8 {
			checkWrong(t, s[:n], api.ErrShort)
		}
	}
}

// P8.2: bytes behind the last part that are none.
func TestSplitBehind(t *testing.T) {
	for _, x := range pairs() {
		for _, more := range []string{"\x00", "\x80", "\xff", "\x00\x00\x00", "\x80\xc8\x00", "\x80\xc8\x00\x01", "\x80\xc8\x00\x01abc", "\x80\xc8\xff\xffabcd", "\x00\x00\x00\x01", "\xff\xff\xff\xff"} {
			checkWrong(t, x.s+more, api.ErrShort)
		}
		checkWrong(t, x.s+"\x00\x00\x00\x00", api.ErrMark)
		checkWrong(t, x.s+"\x80\x00\x00\x00", api.ErrKind)
		checkWrong(t, x.s+"\xa0\xc8\x00\x00", api.ErrPad)
	}
}

// P8.2: an empty text, and one that is too long, whatever else is wrong of it.
func TestSplitLong(t *testing.T) {
	checkWrong(t, "", api.ErrShort)
	for _, x := range full() {
		checkWrong(t, x.s+"x", api.ErrLong)
		checkWrong(t, x.s+"\x80\xc8\x00\x00", api.ErrLong)
	}
	checkWrong(t, "\x80\xc8\x40\x00"+text(65536), api.ErrLong)
	checkWrong(t, "\x80\xc8\xff\xff"+text(longPart), api.ErrLong)
	for _, b := range []string{"\x00", "\x80", "\xff"} {
		checkWrong(t, strings.Repeat(b, api.MaxPacket+1), api.ErrLong)
	}
	checkWrong(t, strings.Repeat("\x00", api.MaxPacket), api.ErrMark)
	checkWrong(t, strings.Repeat("\xff", api.MaxPacket), api.ErrShort)
	checkWrong(t, "\x80\xc8\x40\x00"+text(65532), api.ErrShort)
}

// P8.2: every first byte with every type, alone and behind another part.
func TestSplitMarkAndKind(t *testing.T) {
	for first := range 256 {
		for kind := range 256 {
			s := head(first, kind, 2) + "abcdefg\x04"
			switch {
			case first>>6 != 2:
				checkWrong(t, s, api.ErrMark)
				checkWrong(t, "\x80\xc8\x00\x00"+s, api.ErrMark)
			case kind < 192 || kind > 223:
				checkWrong(t, s, api.ErrKind)
				checkWrong(t, "\x80\xc8\x00\x00"+s, api.ErrKind)
			case first&32 == 0:
				checkSplit(t, s, []api.Part{{Count: first & 31, Type: kind, Body: "abcdefg\x04"}})
			default:
				checkSplit(t, s, []api.Part{{Count: first & 31, Type: kind, Body: "abcd"}})
			}
		}
	}
}

// P8.2: every last byte of Bodies of many lengths: padding of 4 bytes, of more
// and of the whole Body is taken off, all other is wrong.
func TestSplitPad(t *testing.T) {
	for _, words := range []int{1, 2, 3, 4, 31, 32, 62, 63, 64, 65, 100} {
		for last := range 256 {
			body := padding(4*words, last)
			s := head(0xa9, 206, words) + body
			ahead := []api.Part{{Count: 1, Type: 200, Body: "\x00\x00\x00\x04"}}
			if last == 0 || last%4 != 0 || last > len(body) {
				checkWrong(t, s, api.ErrPad)
				checkWrong(t, "\x81\xc8\x00\x01\x00\x00\x00\x04"+s, api.ErrPad)
				continue
			}
			want := api.Part{Count: 9, Type: 206, Body: body[:len(body)-last]}
			checkSplit(t, s, []api.Part{want})
			checkSplit(t, "\x81\xc8\x00\x01\x00\x00\x00\x04"+s, append(ahead, want))
		}
	}
}

// P8.2: a padded part with an empty Body, and one with an empty rest.
func TestSplitPadEmpty(t *testing.T) {
	checkWrong(t, "\xa0\xc8\x00\x00", api.ErrPad)
	checkWrong(t, "\x80\xc8\x00\x01\x00\x00\x00\x04\xa0\xc8\x00\x00", api.ErrPad)
	checkSplit(t, "\xa3\xc8\x00\x01\x00\x00\x00\x04", []api.Part{{Count: 3, Type: 200}})
	checkSplit(t, "\xa3\xc8\x00\x02\x00\x00\x00\x04\x00\x00\x00\x08", []api.Part{{Count: 3, Type: 200}})
	checkSplit(t, "\xa3\xc8\x00\x3f"+padding(252, 252), []api.Part{{Count: 3, Type: 200}})
}

// P8.2: what stands in padding ahead of its last byte is not looked at.
func TestSplitPadAny(t *testing.T) {
	for b := range 256 {
		fill := strings.Repeat(string([]byte{byte(b)}), 7)
		checkSplit(t, "\xa0\xc8\x00\x03abcd"+fill+"\x08", []api.Part{{Type: 200, Body: "abcd"}})
	}
}

// P8.2: a padded part that is not the last one, whatever follows, be it a part,
// a wrong one, or bytes that are none.
func TestSplitPadAhead(t *testing.T) {
	padded := "\xa0\xc8\x00\x02abcd\x00\x00\x00\x04"
	checkSplit(t, padded, []api.Part{{Type: 200, Body: "abcd"}})
	for _, more := range []string{"\x80\xc8\x00\x00", padded, "\x80\xc8\x00\x01abcd", "\x80", "\x80\xc8\x00", "\x80\xc8\x00\x01abc", "\x00\x00\x00\x00", "\x80\x00\x00\x00", "\xa0\xc8\x00\x00"} {
		checkWrong(t, padded+more, api.ErrPad)
		checkWrong(t, "\x80\xc8\x00\x00"+padded+more, api.ErrPad)
	}
	long := head(0xa0, 200, longMessage/4-1) + padding(longMessage-4, 4)
	checkSplit(t, long, []api.Part{{Type: 200, Body: long[4 : len(long)-4]}})
	checkWrong(t, long+"\x80\xc8\x00\x00", api.ErrPad)
}

// P8.2: where two things are wrong, the first one is told: part by part, and of
// one part in the chapter's order.
func TestSplitFirst(t *testing.T) {
	for _, x := range []struct {
		s    string
		want api.Errno
	}{
		{"\x00\x00\x00", api.ErrShort},
		{"\xe0\xff\x00\x01abc", api.ErrShort},
		{"\x00\xc8\x00\x01abc", api.ErrShort},
		{"\x80\xbf\x00\x01abc", api.ErrShort},
		{"\xa0\xc8\x00\x02\x00\x00\x00\x04", api.ErrShort},
		{"\x40\xbf\x00\x00", api.ErrMark},
		{"\x60\xc8\x00\x00", api.ErrMark},
		{"\xe0\xe0\x00\x01\x00\x00\x00\x05", api.ErrMark},
		{"\xa0\xbf\x00\x00", api.ErrKind},
		{"\xa0\xe0\x00\x01\x00\x00\x00\x00", api.ErrKind},
		{"\xa0\xe0\x00\x01\x00\x00\x00\x04\x80", api.ErrKind},
		{"\xa0\xc8\x00\x01\x00\x00\x00\x05\x00", api.ErrPad},
		{"\xa0\xc8\x00\x00\x00", api.ErrPad},
		{"\x00\xc8\x00\x00\x80", api.ErrMark},
		{"\x80\xbf\x00\x00\x80", api.ErrKind},
		{"\x80\xbf\x00\x00\x00\x00\x00\x00", api.ErrKind},
		{"\x80\xc8\x00\x00\x80\xbf\x00\x00\x00\xc8\x00\x00", api.ErrKind},
		{"\x80\xc8\x00\x00\x00\xc8\x00\x00\x80\xbf\x00\x00", api.ErrMark},
		{"\x80\xc8\x00\x00\xa0\xc8\x00\x00\x00\xc8\x00\x00", api.ErrPad},
		{"\x00\xc8\x00\x04\x80\xbf\x00\x00", api.ErrShort},
		{"\x00\xc8\x00\x01\x80\xbf\x00\x00", api.ErrMark},
	} {
		checkWrong(t, x.s, x.want)
	}
}

// P8.2: what is told is new: no Body lies in the text, and a change of one
// answer, spare room and all, is not to be seen in another one.
func TestSplitNew(t *testing.T) {
	s := "\x82\xc9\x00\x02abcdefgh\x80\xc8\x00\x00\xbf\xc0\x00\x02ijkl\x00\x00\x00\x04"
	first, _ := Split(s)
	from := uintptr(unsafe.Pointer(unsafe.StringData(s)))
	for _, p := range first {
		if at := uintptr(unsafe.Pointer(unsafe.StringData(p.Body))); p.Body != "" && at >= from && at < from+uintptr(len(s)) {
			t.Errorf("%q lies in the text", p.Body)
		}
	}
	clear(first[:cap(first)])
	checkSplit(t, s, []api.Part{{Count: 2, Type: 201, Body: "abcdefgh"}, {Type: 200}, {Count: 31, Type: 192, Body: "ijkl"}})
}

// told is what a plain reading of the chapter tells of s.
func told(s string) ([]api.Part, api.Errno) {
	if len(s) > 65536 {
		return nil, api.ErrLong
	}
	if len(s) == 0 {
		return nil, api.ErrShort
	}
	var l []api.Part
	for len(s) > 0 {
		if len(s) < 4 {
			return nil, api.ErrShort
		}
		end := 4 + 4*(int(s[2])*256+int(s[3]))
		switch {
		case end > len(s):
			return nil, api.ErrShort
		case s[0] < 128 || s[0] > 191:
			return nil, api.ErrMark
		case s[1]/32 != 6:
			return nil, api.ErrKind
		}
		p := api.Part{Count: int(s[0] % 32), Type: int(s[1]), Body: s[4:end]}
		if s[0]%64 >= 32 {
			pad := int(s[end-1])
			if end < len(s) || end == 4 || pad%4 > 0 || pad < 4 || pad > end-4 {
				return nil, api.ErrPad
			}
			p.Body = s[4 : end-pad]
		}
		l = append(l, p)
		s = s[end:]
	}
	return l, api.OK
}

func checkTold(t *testing.T, s string) api.Errno {
	t.Helper()
	l, e := Split(s)
	want, err := told(s)
	if !slices.Equal(l, want) || e != err {
		t.Fatalf("Split(%x): %s, %v, not %s, %v", s, shown(l), e, shown(want), err)
	}
	return e
}

// somePart is the bytes of a part by chance, seldom a wrong one.
func somePart(source *rand.Rand) string {
	words := source.Intn(5)
	first, kind := 128+source.Intn(32), 192+source.Intn(32)
	if source.Intn(5) == 0 {
		first += 32
	}
	if source.Intn(20) == 0 {
		first = source.Intn(256)
	}
	if source.Intn(20) == 0 {
		kind = source.Intn(256)
	}
	body := make([]byte, 4*words)
	source.Read(body)
	if words > 0 && source.Intn(4) > 0 {
		body[len(body)-1] = byte(source.Intn(24))
	}
	return head(first, kind, words) + string(body)
}

// P8.2: texts of all sorts, held against the plain reading.
func TestSplitExact(t *testing.T) {
	source := rand.New(rand.NewSource(8))
	seen := map[api.Errno]int{}
	for range 200000 {
		s := ""
		for range 1 + source.Intn(4) {
			s += somePart(source)
		}
		if source.Intn(5) == 0 {
			b := []byte(s)
			b[source.Intn(len(b))] ^= 1 << source.Intn(8)
			s = string(b)
		}
		if source.Intn(5) == 0 {
			s = s[:source.Intn(len(s)+1)]
		}
		seen[checkTold(t, s)]++
	}
	for _, e := range []api.Errno{api.OK, api.ErrShort, api.ErrMark, api.ErrKind, api.ErrPad} {
		if seen[e] < 1000 {
			t.Error(e, seen[e])
		}
	}
}

// P8.2: each byte of each message made any other one.
func TestSplitTurned(t *testing.T) {
	for _, x := range pairs()[:11] {
		for i := range len(x.s) {
			for b := range 256 {
				checkTold(t, x.s[:i]+string([]byte{byte(b)})+x.s[i+1:])
			}
		}
	}
}

// someParts are parts by chance.
func someParts(source *rand.Rand) []api.Part {
	var l []api.Part
	for range 1 + source.Intn(9) {
		body := make([]byte, 4*source.Intn(1<<source.Intn(9)))
		source.Read(body)
		l = append(l, api.Part{Count: source.Intn(32), Type: 192 + source.Intn(32), Body: string(body)})
	}
	return l
}

// P8.3: what was joined is split.
func TestThereAndBack(t *testing.T) {
	source := rand.New(rand.NewSource(83))
	for range 5000 {
		l := someParts(source)
		s, e := Join(l)
		if e != api.OK {
			t.Fatalf("Join of %d parts: %v", len(l), e)
		}
		checkSplit(t, s, l)
	}
	for _, x := range append(pairs(), full()...) {
		s, _ := Join(x.l)
		checkSplit(t, s, x.l)
	}
}

// P8.3: every count of empty parts at both ends, and some between.
func TestThereAndBackMany(t *testing.T) {
	l := slices.Repeat([]api.Part{{Count: 1, Type: 200}, {Count: 2, Type: 201}, {Count: 3, Type: 202}}, api.MaxPacket/12+1)[:api.MaxPacket/4]
	for n := 1; n <= len(l); n += 1 + n/3 {
		for _, k := range []int{n, len(l) + 1 - n} {
			s, e := Join(l[:k])
			if len(s) != 4*k || e != api.OK {
				t.Fatalf("%d parts: %d bytes, %v", k, len(s), e)
			}
			checkSplit(t, s, l[:k])
		}
	}
}

// P8.3: what was split is joined, and split as it was, though padding is gone.
func TestBackAndThere(t *testing.T) {
	source := rand.New(rand.NewSource(38))
	for range 2000 {
		l := someParts(source)
		plain, _ := Join(l)
		last := l[len(l)-1]
		ahead := plain[:len(plain)-4-len(last.Body)]
		pad := 4 * (1 + source.Intn(63))
		s := ahead + head(160+last.Count, last.Type, (len(last.Body)+pad)/4) + last.Body + padding(pad, pad)
		checkSplit(t, s, l)
		got, _ := Split(s)
		checkJoin(t, got, plain)
	}
}
