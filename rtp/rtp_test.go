package rtp

import (
	"encoding/binary"
	"math"
	"math/rand"
	"reflect"
	"strings"
	"testing"

	"flywheel/api"
)

// zeros are bytes that lack to a whole word.
const zeros = "\x00\x00\x00"

// bare is what a header of zeros begins with, the bit of Exts set.
const bare = "\x90\x00\x00\x00\x00\x00\x00\x00\x00\x00\x00\x00"

// beginning is bare, with so many words of extensions to come.
func beginning(words int) string {
	return bare + "\xbe\xde" + string([]byte{byte(words >> 8), byte(words)})
}

// same is whether a and b are one header; nil and empty lists are one.
func same(a, b api.Header) bool {
	return reflect.DeepEqual(filled(a), filled(b))
}

func filled(h api.Header) api.Header {
	h.Sources = append([]uint32{}, h.Sources...)
	h.Exts = append([]api.Ext{}, h.Exts...)
	return h
}

// zero is whether h tells nothing.
func zero(h api.Header) bool { return reflect.DeepEqual(h, api.Header{}) }

// text is n bytes, none of them 0.
func text(n int) string {
	return strings.Repeat("\xf1\x2e\xd3\x4c\xb5\x6a\x97\x88", n/8+1)[:n]
}

// exts are extensions with these Ids, each with so many bytes.
func exts(size int, ids ...int) []api.Ext {
	var l []api.Ext
	for _, id := range ids {
		l = append(l, api.Ext{Id: id, Data: text(size)})
	}
	return l
}

// allIds are the Ids that there are.
func allIds() []int {
	var l []int
	for id := 1; id <= 14; id++ {
		l = append(l, id)
	}
	return l
}

// sources are n of them.
func sources(n int) []uint32 {
	var l []uint32
	for i := range n {
		l = append(l, uint32(i)*0x11111111+1<<31)
	}
	return l
}

type pair struct {
	h api.Header
	s string
}

// pairs are headers and their bytes, written out by hand.
func pairs() []pair {
	all := api.Header{Exts: exts(1, allIds()...)}
	allBytes := ""
	for id := 1; id <= 14; id++ {
		allBytes += string([]byte{byte(id << 4)}) + "\xf1"
	}
	most := api.Header{Marker: true, Type: 127, Seq: 65535, Time: 1<<32 - 1, Ssrc: 1<<32 - 1, Sources: sources(15), Exts: exts(16, allIds()...)}
	mostBytes := "\x9f\xff\xff\xff\xff\xff\xff\xff\xff\xff\xff\xff"
	for _, source := range most.Sources {
		mostBytes = string(binary.BigEndian.AppendUint32([]byte(mostBytes), source))
	}
	mostBytes += "\xbe\xde\x00\x3c"
	for id := 1; id <= 14; id++ {
		mostBytes += string([]byte{byte(id<<4 | 15)}) + text(16)
	}
	return []pair{
		{api.Header{}, "\x80\x00\x00\x00\x00\x00\x00\x00\x00\x00\x00\x00"},
		{api.Header{Type: 96, Seq: 1, Time: 2, Ssrc: 3}, "\x80\x60\x00\x01\x00\x00\x00\x02\x00\x00\x00\x03"},
		{api.Header{Marker: true}, "\x80\x80\x00\x00\x00\x00\x00\x00\x00\x00\x00\x00"},
		{api.Header{Type: 127}, "\x80\x7f\x00\x00\x00\x00\x00\x00\x00\x00\x00\x00"},
		{api.Header{Seq: 65535}, "\x80\x00\xff\xff\x00\x00\x00\x00\x00\x00\x00\x00"},
		{api.Header{Marker: true, Type: 1, Seq: 0x1234, Time: 0x56789abc, Ssrc: 0xdef01234}, "\x80\x81\x12\x34\x56\x78\x9a\xbc\xde\xf0\x12\x34"},
		{api.Header{Time: 1<<32 - 1}, "\x80\x00\x00\x00\xff\xff\xff\xff\x00\x00\x00\x00"},
		{api.Header{Ssrc: 1 << 31}, "\x80\x00\x00\x00\x00\x00\x00\x00\x80\x00\x00\x00"},
		{api.Header{Sources: []uint32{0}}, "\x81\x00\x00\x00\x00\x00\x00\x00\x00\x00\x00\x00\x00\x00\x00\x00"},
		{api.Header{Sources: []uint32{7, 0x12345678}}, "\x82\x00\x00\x00\x00\x00\x00\x00\x00\x00\x00\x00\x00\x00\x00\x07\x12\x34\x56\x78"},
		{api.Header{Sources: make([]uint32, 15)}, "\x8f\x00\x00\x00" + strings.Repeat("\x00", 68)},
		{api.Header{Exts: []api.Ext{{Id: 1, Data: "a"}}}, beginning(1) + "\x10a\x00\x00"},
		{api.Header{Exts: []api.Ext{{Id: 14, Data: "\x00"}}}, beginning(1) + "\xe0\x00\x00\x00"},
		{api.Header{Exts: []api.Ext{{Id: 1, Data: "abcdefghijklmnop"}}}, beginning(5) + "\x1fabcdefghijklmnop" + zeros},
		{api.Header{Exts: []api.Ext{{Id: 2, Data: "ab"}}}, beginning(1) + "\x21ab\x00"},
		{api.Header{Exts: []api.Ext{{Id: 2, Data: "abc"}}}, beginning(1) + "\x22abc"},
		{api.Header{Exts: []api.Ext{{Id: 2, Data: "abcd"}}}, beginning(2) + "\x23abcd" + zeros},
		{api.Header{Exts: []api.Ext{{Id: 9, Data: "a"}, {Id: 3, Data: "b"}}}, beginning(1) + "\x90a\x30b"},
		{api.Header{Exts: []api.Ext{{Id: 9, Data: "\xff\x00"}, {Id: 3, Data: "\x00"}, {Id: 14, Data: "\x10"}}}, beginning(2) + "\x91\xff\x00\x30\x00\xe0\x10\x00"},
		{api.Header{Sources: []uint32{0xbede0000}, Exts: []api.Ext{{Id: 1, Data: "a"}}}, "\x91" + bare[1:] + "\xbe\xde\x00\x00\xbe\xde\x00\x01\x10a\x00\x00"},
		{all, beginning(7) + allBytes},
		{most, mostBytes + "\x00\x00"},
	}
}

func checkEncode(t *testing.T, h api.Header, want string) {
	t.Helper()
	if got, e := Encode(h); got != want || e != api.OK {
		t.Fatalf("Encode(%#v): %x, %v, not %x", h, got, e, want)
	}
}

func checkRefused(t *testing.T, h api.Header) {
	t.Helper()
	if got, e := Encode(h); got != "" || e != api.ErrArg {
		t.Fatalf("Encode(%#v): %x, %v", h, got, e)
	}
}

func checkDecode(t *testing.T, s string, want api.Header, size int) {
	t.Helper()
	if h, n, e := Decode(s); !same(h, want) || n != size || e != api.OK {
		t.Fatalf("Decode(%.400x): %#v, %d, %v, not %#v, %d", s, h, n, e, want, size)
	}
}

func checkWrong(t *testing.T, s string, want api.Errno) {
	t.Helper()
	if h, n, e := Decode(s); !zero(h) || n != 0 || e != want {
		t.Fatalf("Decode(%.400x): %#v, %d, %v, not %v", s, h, n, e, want)
	}
}

// checkWrongFrom is that s is refused with want by its last byte, whatever
// follows: without it bytes lack.
func checkWrongFrom(t *testing.T, s string, want api.Errno) {
	t.Helper()
	checkWrong(t, s[:len(s)-1], api.ErrShort)
	for _, more := range []string{"", "\x00", "\xff", strings.Repeat("\x00", 300), strings.Repeat("\xff", 300), beginning(1) + "\x10a\x00\x00"} {
		checkWrong(t, s+more, want)
	}
}

// P7.1: the bits of headers, the least and the greatest of each field among them.
func TestEncode(t *testing.T) {
	for _, x := range pairs() {
		checkEncode(t, x.h, x.s)
	}
}

// P7.1: every Type, every Id, every count of Sources and every length of Data
// stands where it should, and nothing else is changed by it.
func TestEncodeEach(t *testing.T) {
	for n := range 128 {
		checkEncode(t, api.Header{Type: n}, "\x80"+string([]byte{byte(n)})+bare[2:])
		checkEncode(t, api.Header{Type: n, Marker: true}, "\x80"+string([]byte{byte(n + 128)})+bare[2:])
	}
	for n := range 65536 {
		checkEncode(t, api.Header{Seq: n}, "\x80\x00"+string([]byte{byte(n >> 8), byte(n)})+bare[4:])
	}
	for n := range 16 {
		want := string([]byte{byte(0x80 + n)}) + bare[1:]
		for _, source := range sources(n) {
			want = string(binary.BigEndian.AppendUint32([]byte(want), source))
		}
		checkEncode(t, api.Header{Sources: sources(n)}, want)
	}
	for id := 1; id <= 14; id++ {
		for n := 1; n <= 16; n++ {
			words := n/4 + 1
			want := beginning(words) + string([]byte{byte(id<<4 + n - 1)}) + text(n)
			want += strings.Repeat("\x00", len(bare)+4+4*words-len(want))
			checkEncode(t, api.Header{Exts: exts(n, id)}, want)
		}
	}
}

// P7.1: nil and empty lists are one.
func TestEncodeEmptyLists(t *testing.T) {
	checkEncode(t, api.Header{Sources: []uint32{}, Exts: []api.Ext{}}, "\x80"+bare[1:])
	checkEncode(t, api.Header{Sources: make([]uint32, 0, 9), Exts: exts(1, 1, 2)[:0]}, "\x80"+bare[1:])
}

// P7.1: each field just beyond what a header may have, and far from it, also
// where its lower bits would do.
func TestEncodeWrong(t *testing.T) {
	wild := []int{math.MinInt, math.MinInt + 1, -1 << 32, -1<<32 + 1, -65536, -65535, -128, -16, -15, -1, 1 << 31, 1 << 32, 1<<32 + 1, 1 << 33, 1 << 62, math.MaxInt - 1, math.MaxInt}
	for _, n := range append([]int{128, 129, 224, 255, 256, 257, 65536}, wild...) {
		checkRefused(t, api.Header{Type: n})
	}
	for _, n := range append([]int{65536, 65537, 131071, 131072}, wild...) {
		checkRefused(t, api.Header{Seq: n})
	}
	for _, n := range []int{16, 17, 31, 32, 33, 256, 257, 1 << 16} {
		checkRefused(t, api.Header{Sources: make([]uint32, n)})
	}
	for _, n := range append([]int{0, 15, 16, 17, 30, 31, 32, 33, 256, 257, 65537}, wild...) {
		checkRefused(t, api.Header{Exts: exts(1, n)})
		checkRefused(t, api.Header{Exts: exts(1, 1, n)})
		checkRefused(t, api.Header{Exts: exts(1, n, 1)})
	}
	for _, n := range []int{0, 17, 18, 32, 33, 256, 257, 1 << 16} {
		checkRefused(t, api.Header{Exts: exts(n, 1)})
		checkRefused(t, api.Header{Exts: append(exts(1, 3), exts(n, 1)...)})
		checkRefused(t, api.Header{Exts: append(exts(n, 3), exts(1, 1)...)})
	}
}

// P7.1: an Id twice, wherever, whatever Data is.
func TestEncodeTwice(t *testing.T) {
	for id := 1; id <= 14; id++ {
		checkRefused(t, api.Header{Exts: exts(1, id, id)})
		checkRefused(t, api.Header{Exts: append(exts(1, id), exts(2, id)...)})
	}
	for i := range 14 {
		for j := range 14 {
			l := exts(1, allIds()...)
			l[i].Id = l[j].Id
			if i != j {
				checkRefused(t, api.Header{Exts: l})
			}
		}
	}
}

// P7.1: more than MaxExts, of any Ids, and far more.
func TestEncodeMany(t *testing.T) {
	for id := range 17 {
		checkRefused(t, api.Header{Exts: exts(1, append(allIds(), id)...)})
	}
	checkRefused(t, api.Header{Exts: make([]api.Ext, 15)})
	checkRefused(t, api.Header{Exts: make([]api.Ext, 1<<16)})
	checkRefused(t, api.Header{Exts: append(exts(1, allIds()...), exts(1, allIds()...)...)})
}

// P7.1: one field that is wrong is enough.
func TestEncodeOneWrong(t *testing.T) {
	most := pairs()[len(pairs())-1].h
	for _, change := range []func(h *api.Header){
		func(h *api.Header) { h.Type = 128 },
		func(h *api.Header) { h.Type = -1 },
		func(h *api.Header) { h.Seq = 65536 },
		func(h *api.Header) { h.Seq = -1 },
		func(h *api.Header) { h.Sources = append(h.Sources, 1) },
		func(h *api.Header) { h.Exts[13].Id = 0 },
		func(h *api.Header) { h.Exts[13].Id = 15 },
		func(h *api.Header) { h.Exts[13].Id = 1 },
		func(h *api.Header) { h.Exts[0].Data = "" },
		func(h *api.Header) { h.Exts[13].Data += "x" },
		func(h *api.Header) { h.Exts = append(h.Exts, api.Ext{Id: 15, Data: "x"}) },
	} {
		h := filled(most)
		change(&h)
		checkRefused(t, h)
	}
}

// P7.1: what is handed in is not changed, its spare room included.
func TestEncodeLeaves(t *testing.T) {
	listed, laid := exts(3, 1, 2, 3, 4), sources(4)
	h := api.Header{Sources: laid[:2], Exts: listed[:2]}
	first, _ := Encode(h)
	second, _ := Encode(h)
	if first != second || !reflect.DeepEqual(listed, exts(3, 1, 2, 3, 4)) || !reflect.DeepEqual(laid, sources(4)) {
		t.Errorf("%x, %x, %v, %v", first, second, listed, laid)
	}
}

// P7.2: headers, as they were written out, and bytes behind them.
func TestDecode(t *testing.T) {
	for _, x := range pairs() {
		for _, more := range []string{"", "\x00", "\xff", "more", "\x10a\x00\x00", strings.Repeat("\x90", 70000)} {
			checkDecode(t, x.s+more, x.h, len(x.s))
		}
	}
}

// P7.2: every header cut off at every byte.
func TestDecodeCut(t *testing.T) {
	for _, x := range pairs() {
		for n := range len(x.s) {
			checkWrong(t, x.s[:n], api.ErrShort)
		}
	}
}

// P7.2: of the first byte three bits must be as they are, and are told though
// bytes lack behind them.
func TestDecodeMark(t *testing.T) {
	checkWrong(t, "", api.ErrShort)
	for b := range 256 {
		first := string([]byte{byte(b)})
		if b >= 0x80 && b < 0xa0 {
			checkWrong(t, first, api.ErrShort)
			continue
		}
		checkWrongFrom(t, first, api.ErrMark)
		checkWrong(t, first+beginning(1)[1:]+"\xf0", api.ErrMark)
		checkWrong(t, first+bare[1:]+"\xbf", api.ErrMark)
	}
}

// P7.2: another number than bede, told at the first of its bytes that is wrong.
func TestDecodeProfile(t *testing.T) {
	for b := range 256 {
		one := string([]byte{byte(b)})
		if b != 0xbe {
			checkWrongFrom(t, bare+one, api.ErrExt)
			checkWrong(t, bare+one+"\xde\x00\x00", api.ErrExt)
		}
		if b != 0xde {
			checkWrongFrom(t, bare+"\xbe"+one, api.ErrExt)
			checkWrong(t, bare+"\xbe"+one+"\x00\x00", api.ErrExt)
		}
	}
	checkWrong(t, bare, api.ErrShort)
	checkWrong(t, bare+"\xbe", api.ErrShort)
	checkWrong(t, bare+"\xbe\xde", api.ErrShort)
	checkWrong(t, bare+"\xbe\xde\x00", api.ErrShort)
	checkWrongFrom(t, "\x91"+bare[1:]+"\xbe\xde\x00\x01\xbf", api.ErrExt)
}

// P7.2: without the bit of Exts, nothing behind is looked at.
func TestDecodeWithoutExts(t *testing.T) {
	for _, more := range []string{"\xbe\xde\x00\x01\xf0", "\xbf", "\xbe\xde\x00\x01\x10a\x00\x00"} {
		checkDecode(t, "\x80"+bare[1:]+more, api.Header{}, 12)
	}
}

// P7.2: Exts may be none though the bit is set: no words, or words of bytes 0,
// as many as there may be.
func TestDecodeNoExts(t *testing.T) {
	for _, words := range []int{0, 1, 2, 255, 256, 257, 65535} {
		s := beginning(words) + strings.Repeat("\x00", 4*words)
		checkDecode(t, s, api.Header{}, len(s))
		checkDecode(t, s+"\xf0", api.Header{}, len(s))
		checkWrong(t, s[:len(s)-1], api.ErrShort)
	}
	s := beginning(65535) + strings.Repeat("\x00", 4*65535-2)
	checkDecode(t, s+"\x10a", api.Header{Exts: []api.Ext{{Id: 1, Data: "a"}}}, len(s)+2)
	checkWrong(t, s+"\x00\x10", api.ErrExt)
}

// P7.2: bytes 0 ahead of, between and behind extensions are skipped, also whole
// words of them; those within Data are Data.
func TestDecodeZeros(t *testing.T) {
	want := api.Header{Exts: []api.Ext{{Id: 5, Data: "\x00a"}, {Id: 1, Data: "\x00"}, {Id: 14, Data: "\x00\x00\x00\x00"}}}
	for ahead := range 9 {
		for first := range 9 {
			for second := range 9 {
				s := strings.Repeat("\x00", ahead) + "\x51\x00a" + strings.Repeat("\x00", first) + "\x10\x00" + strings.Repeat("\x00", second) + "\xe3\x00\x00\x00\x00"
				for len(s)%4 != 0 {
					s += "\x00"
				}
				for range 3 {
					all := beginning(len(s)/4) + s
					checkDecode(t, all, want, len(all))
					checkDecode(t, all+"\x10", want, len(all))
					s += "\x00\x00\x00\x00"
				}
			}
		}
	}
}

// P7.2: Id 0 with another length, and Id 15 with any, at their own byte, wherever
// that is within the words.
func TestDecodeWrongId(t *testing.T) {
	for _, ahead := range []string{"", "\x00", "\x10a", "\x00\x10a", "\x22abc", "\x00\x22abc\x00\x30b"} {
		for more := range 16 {
			if more > 0 {
				checkWrongFrom(t, beginning(9)+ahead+string([]byte{byte(more)}), api.ErrExt)
			}
			checkWrongFrom(t, beginning(9)+ahead+string([]byte{byte(0xf0 + more)}), api.ErrExt)
		}
	}
	checkWrongFrom(t, beginning(1)+zeros+"\xf0", api.ErrExt)
	checkWrongFrom(t, beginning(1)+zeros+"\x01", api.ErrExt)
}

// P7.2: an Id twice, at the second one's own byte, whatever its length.
func TestDecodeTwice(t *testing.T) {
	for id := 1; id <= 14; id++ {
		for _, between := range []string{"", "\x00", string([]byte{byte(id%14+1) << 4}) + "b"} {
			first := string([]byte{byte(id << 4)}) + "a"
			for more := range 16 {
				checkWrongFrom(t, beginning(9)+first+between+string([]byte{byte(id<<4 + more)}), api.ErrExt)
			}
		}
	}
}

// P7.2: Data up to the end of the words, and beyond it by a byte and by more: the
// words count, not the bytes that are there.
func TestDecodeBeyond(t *testing.T) {
	for words := 1; words <= 6; words++ {
		for ahead := range 4 * words {
			room := 4*words - ahead - 1
			for n := 1; n <= 16; n++ {
				s := beginning(words) + strings.Repeat("\x00", ahead) + string([]byte{byte(0x70 + n - 1)})
				if n > room {
					checkWrongFrom(t, s, api.ErrExt)
					checkWrong(t, s+text(16), api.ErrExt)
					continue
				}
				whole := s + text(n) + strings.Repeat("\x00", room-n)
				checkDecode(t, whole, api.Header{Exts: exts(n, 7)}, len(whole))
				for cut := range n {
					checkWrong(t, s+text(cut), api.ErrShort)
				}
			}
		}
	}
}

// P7.2: more than MaxExts, by whatever Id; bytes 0 behind the last one are none.
func TestDecodeMany(t *testing.T) {
	s := beginning(9)
	for id := 1; id <= 14; id++ {
		s += string([]byte{byte(id << 4)}) + "a"
	}
	for b := 1; b < 256; b++ {
		checkWrongFrom(t, s+string([]byte{byte(b)}), api.ErrExt)
		checkWrongFrom(t, s+"\x00\x00"+string([]byte{byte(b)}), api.ErrExt)
	}
	h, n, e := Decode(s + strings.Repeat("\x00", 8))
	if len(h.Exts) != api.MaxExts || n != len(s)+8 || e != api.OK {
		t.Error(h, n, e)
	}
}

// P7.2: where two things are wrong, or one is wrong and bytes lack, the first
// one from the left is told.
func TestDecodeFirst(t *testing.T) {
	for _, x := range []struct {
		s    string
		want api.Errno
	}{
		{"\x10", api.ErrMark},
		{"\xb0" + bare[1:] + "\xbf", api.ErrMark},
		{"\xd0" + beginning(1)[1:] + "\xf0", api.ErrMark},
		{"\x9f" + bare[1:] + "\xbf\xde\x00\x01\xf0", api.ErrShort},
		{bare[:11], api.ErrShort},
		{bare + "\xbf", api.ErrExt},
		{bare + "\xde", api.ErrExt},
		{bare + "\xbe\xdf\x00", api.ErrExt},
		{beginning(1) + "\x12ab", api.ErrShort},
		{beginning(1) + "\x13ab", api.ErrExt},
		{beginning(1) + "\x13", api.ErrExt},
		{beginning(1) + "\x10a\x20", api.ErrShort},
		{beginning(1) + "\x10a\x21", api.ErrExt},
		{beginning(1) + "\x10a\x10", api.ErrExt},
		{beginning(2) + "\x13\xf0\x01", api.ErrShort},
		{beginning(2) + "\x13\xf0\x01\xf0\x10\x10", api.ErrExt},
		{beginning(2) + "\x13\xf0\x01\xf0\x10\x00", api.ErrShort},
		{beginning(2) + "\x13\xf0\x01\xf0\x10\x00\x20", api.ErrShort},
		{beginning(2) + "\x13\xf0\x01\xf0\x10\x00\x21", api.ErrExt},
		{beginning(65535) + "\xf0", api.ErrExt},
		{beginning(65535) + "\x10a\x00", api.ErrShort},
		{beginning(65535) + "\x00\x01", api.ErrExt},
	} {
		checkWrong(t, x.s, x.want)
	}
}

// P7.2: what is told is new: changes of one answer's lists, spare room and all,
// are not to be seen in another one.
func TestDecodeNew(t *testing.T) {
	s := pairs()[len(pairs())-1].s
	first, _, _ := Decode(s)
	for i := range first.Sources {
		first.Sources[i] = 0
	}
	for i := range first.Exts {
		first.Exts[i] = api.Ext{}
	}
	for _, x := range first.Exts[:cap(first.Exts)] {
		if x != (api.Ext{}) {
			t.Error(x)
		}
	}
	checkDecode(t, s, pairs()[len(pairs())-1].h, len(s))
}

// told is what a plain reading of the chapter tells of s: a state that goes from
// byte to byte, and where they end, what it still waits for.
func told(s string) (h api.Header, size int, e api.Errno) {
	byteAt := func(i int) int {
		if i >= len(s) {
			return -1
		}
		return int(s[i])
	}
	if len(s) == 0 {
		return h, 0, api.ErrShort
	}
	if s[0]&0xe0 != 0x80 {
		return h, 0, api.ErrMark
	}
	at := 12 + 4*int(s[0]&15)
	if len(s) < at {
		return h, 0, api.ErrShort
	}
	h = api.Header{Marker: s[1] >= 128, Type: int(s[1] % 128), Seq: int(binary.BigEndian.Uint16([]byte(s[2:4]))), Time: binary.BigEndian.Uint32([]byte(s[4:8])), Ssrc: binary.BigEndian.Uint32([]byte(s[8:12]))}
	for i := 12; i < at; i += 4 {
		h.Sources = append(h.Sources, binary.BigEndian.Uint32([]byte(s[i:i+4])))
	}
	if s[0]&16 == 0 {
		return h, at, api.OK
	}
	for i, want := range []int{0xbe, 0xde, -2, -2} {
		if byteAt(at+i) == -1 {
			return api.Header{}, 0, api.ErrShort
		}
		if want >= 0 && byteAt(at+i) != want {
			return api.Header{}, 0, api.ErrExt
		}
	}
	end := at + 4 + 4*(byteAt(at+2)*256+byteAt(at+3))
	were := map[int]int{}
	for at += 4; at < end; at++ {
		b := byteAt(at)
		switch {
		case b == -1:
			return api.Header{}, 0, api.ErrShort
		case b == 0:
			continue
		case b < 16, b >= 240, were[b/16] > 0, at+b%16+1 >= end, len(h.Exts) == 14:
			return api.Header{}, 0, api.ErrExt
		case at+b%16+1 >= len(s):
			return api.Header{}, 0, api.ErrShort
		}
		were[b/16]++
		h.Exts = append(h.Exts, api.Ext{Id: b / 16, Data: s[at+1 : at+b%16+2]})
		at += b%16 + 1
	}
	return h, end, api.OK
}

func checkTold(t *testing.T, s string) api.Errno {
	t.Helper()
	h, n, e := Decode(s)
	want, size, err := told(s)
	if !same(h, want) || n != size || e != err || e != api.OK && !zero(h) {
		t.Fatalf("Decode(%x): %#v, %d, %v, not %#v, %d, %v", s, h, n, e, want, size, err)
	}
	return e
}

// P7.2: texts of all sorts, held against the plain reading: extensions of bytes
// by chance, mostly small ones, cut off anywhere.
func TestDecodeExact(t *testing.T) {
	source := rand.New(rand.NewSource(7))
	seen := map[api.Errno]int{}
	for range 200000 {
		size := source.Intn(14)
		var b []byte
		for range 4 * size {
			switch source.Intn(4) {
			case 0:
				b = append(b, 0)
			case 1:
				b = append(b, byte(source.Intn(256)))
			default:
				b = append(b, byte(source.Intn(16)<<4+source.Intn(4)))
			}
		}
		words := size
		if source.Intn(10) == 0 {
			words = source.Intn(15)
		}
		s := []byte(beginning(words) + string(b) + text(source.Intn(3)))
		if source.Intn(3) == 0 {
			s[source.Intn(len(s))] ^= 1 << source.Intn(8)
		}
		if source.Intn(3) == 0 {
			s = s[:source.Intn(len(s)+1)]
		}
		seen[checkTold(t, string(s))]++
	}
	for _, e := range []api.Errno{api.OK, api.ErrShort, api.ErrMark, api.ErrExt} {
		if seen[e] < 500 {
			t.Error(e, seen[e])
		}
	}
}

// P7.2: each bit of each header turned round, and each byte made any other one.
func TestDecodeTurned(t *testing.T) {
	for _, x := range pairs() {
		for i := range len(x.s) {
			for b := range 256 {
				s := x.s[:i] + string([]byte{byte(b)}) + x.s[i+1:]
				checkTold(t, s)
				checkTold(t, s[:i+1])
			}
		}
	}
}

// someHeader is a header by chance.
func someHeader(source *rand.Rand) api.Header {
	h := api.Header{Marker: source.Intn(2) == 1, Type: source.Intn(128), Seq: source.Intn(65536), Time: source.Uint32(), Ssrc: source.Uint32()}
	for range source.Intn(16) {
		h.Sources = append(h.Sources, source.Uint32())
	}
	for _, i := range source.Perm(14)[:source.Intn(15)] {
		data := make([]byte, 1+source.Intn(16))
		source.Read(data)
		h.Exts = append(h.Exts, api.Ext{Id: i + 1, Data: string(data)})
	}
	return h
}

// P7.3: what was encoded is decoded, all its bytes, whatever follows; and cut off
// it is too short.
func TestThereAndBack(t *testing.T) {
	source := rand.New(rand.NewSource(73))
	for range 20000 {
		h := someHeader(source)
		s, e := Encode(h)
		if e != api.OK || len(s)%4 != 0 {
			t.Fatalf("Encode(%#v): %x, %v", h, s, e)
		}
		more := make([]byte, source.Intn(40))
		source.Read(more)
		checkDecode(t, s, h, len(s))
		checkDecode(t, s+string(more), h, len(s))
		checkDecode(t, s+s, h, len(s))
		checkWrong(t, s[:source.Intn(len(s))], api.ErrShort)
	}
}

// P7.3: extensions that fill their words just so, and that lack one, two and
// three bytes, of every length.
func TestThereAndBackFilled(t *testing.T) {
	for first := 1; first <= 16; first++ {
		for second := 1; second <= 16; second++ {
			h := api.Header{Exts: append(exts(first, 14), exts(second, 1)...)}
			s, e := Encode(h)
			if size := 12 + 4 + (first+second+2+3)/4*4; len(s) != size || e != api.OK {
				t.Fatalf("%d, %d: %d bytes, %v", first, second, len(s), e)
			}
			for _, more := range []string{"", "\x00", "\x10", "\xff\xff\xff\xff", s} {
				checkDecode(t, s+more, h, len(s))
			}
		}
	}
}

// P7.3: what was decoded is encoded, and decoded as it was, though bytes 0 among
// its extensions are gone.
func TestBackAndThere(t *testing.T) {
	source := rand.New(rand.NewSource(37))
	for range 2000 {
		h := someHeader(source)
		inner := strings.Repeat("\x00", source.Intn(6))
		for _, x := range h.Exts {
			inner += string([]byte{byte(x.Id<<4 + len(x.Data) - 1)}) + x.Data + strings.Repeat("\x00", source.Intn(6))
		}
		for len(inner)%4 != 0 {
			inner += "\x00"
		}
		plain, _ := Encode(api.Header{Marker: h.Marker, Type: h.Type, Seq: h.Seq, Time: h.Time, Ssrc: h.Ssrc, Sources: h.Sources})
		s := string([]byte{plain[0] | 16}) + plain[1:] + beginning(len(inner) / 4)[12:] + inner
		checkDecode(t, s, h, len(s))
		got, _, _ := Decode(s)
		again, e := Encode(got)
		if want, _ := Encode(h); again != want || e != api.OK {
			t.Fatalf("%x, %v, not %x", again, e, want)
		}
	}
}
