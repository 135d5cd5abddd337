package der_test

import (
	"bytes"
	"encoding/asn1"
	"encoding/binary"
	"math"
	"slices"
	"strings"
	"testing"

	"greatseal/api"
	"greatseal/der"
)

func item(tag int, b ...byte) api.Item { return api.Item{Tag: tag, B: b} }

func seq(l ...api.Item) api.Item { return api.Item{Tag: api.SeqTag, L: l} }

// text is bytes that are all unlike their neighbours.
func text(length int) []byte {
	b := make([]byte, length)
	for k := range b {
		b[k] = byte(k*37 + length)
	}
	return b
}

// nested is so deep: sequences, the innermost of nothing.
func nested(deep int) api.Item {
	x := seq()
	for range deep - 1 {
		x = seq(x)
	}
	return x
}

// over is an item below so many sequences.
func over(x api.Item, many int) api.Item {
	for range many {
		x = seq(x)
	}
	return x
}

// noTags are none of the five; some are one of them modulo 256, or with other bits.
func noTags() []int {
	return []int{math.MinInt, -1, 0, 3, 5, 6, 10, 11, 13, 16, 19, 47, 49, 128 + 1, 128 + 48, 255, 256, 256 + 1, 256 + 48, 1<<32 + 2, math.MaxInt}
}

func tags() []int {
	return []int{api.BoolTag, api.IntTag, api.OctTag, api.TextTag, api.SeqTag}
}

// noItems may not be, as they stand there.
func noItems() []api.Item {
	l := []api.Item{
		{}, item(api.BoolTag), item(api.BoolTag, 1), item(api.BoolTag, 254), item(api.BoolTag, 0, 0), item(api.BoolTag, 255, 255),
		item(api.IntTag), item(api.IntTag, 0, 0), item(api.IntTag, 0, 127), item(api.IntTag, 255, 255), item(api.IntTag, 255, 128),
		item(api.IntTag, 0, 127, 255, 255), item(api.IntTag, 255, 128, 0, 0), item(api.IntTag, 0, 0, 128),
		item(api.IntTag, 1, 2, 3, 4, 5, 6, 7, 8, 9), item(api.IntTag, 0, 255, 255, 255, 255, 255, 255, 255, 255),
		item(api.IntTag, 255, 127, 255, 255, 255, 255, 255, 255, 255), item(api.IntTag, make([]byte, 20)...),
		item(api.TextTag, 31), item(api.TextTag, 127), item(api.TextTag, 0), item(api.TextTag, 128), item(api.TextTag, 255), item(api.TextTag, 195, 164),
		item(api.TextTag, 'a', 10), item(api.TextTag, 10, 'a'), item(api.TextTag, 'a', 127, 'b'),
		item(api.SeqTag, 0), item(api.SeqTag, 2, 1, 5), {Tag: api.SeqTag, B: []byte{2, 1, 5}, L: []api.Item{item(api.IntTag, 5)}},
	}
	for _, tag := range noTags() {
		l = append(l, item(tag), item(tag, 0), item(tag, 255), api.Item{Tag: tag, L: []api.Item{seq()}})
	}
	for _, x := range items() {
		if x.Tag != api.SeqTag {
			x.L = []api.Item{item(api.IntTag, 5)}
			l = append(l, x)
		}
	}
	return l
}

// items may be, and are of each tag.
func items() []api.Item {
	return []api.Item{
		item(api.BoolTag, 0), item(api.BoolTag, 255),
		item(api.IntTag, 0), item(api.IntTag, 1), item(api.IntTag, 127), item(api.IntTag, 128), item(api.IntTag, 255),
		item(api.IntTag, 0, 128), item(api.IntTag, 0, 255), item(api.IntTag, 1, 0), item(api.IntTag, 255, 127), item(api.IntTag, 255, 0), item(api.IntTag, 128, 0),
		item(api.IntTag, 127, 255, 255, 255, 255, 255, 255, 255), item(api.IntTag, 128, 0, 0, 0, 0, 0, 0, 0),
		item(api.OctTag), item(api.OctTag, 0), item(api.OctTag, 255, 0), item(api.OctTag, 0, 0), item(api.OctTag, text(127)...), item(api.OctTag, text(128)...), item(api.OctTag, text(255)...), item(api.OctTag, text(256)...),
		item(api.TextTag), item(api.TextTag, 32), item(api.TextTag, 126), item(api.TextTag, []byte("ab")...), item(api.TextTag, bytes.Repeat([]byte{'x'}, 128)...),
		seq(), seq(seq()), seq(item(api.IntTag, 5), item(api.IntTag, 128), item(api.TextTag, []byte("ab")...)), seq(item(api.BoolTag, 0), seq(item(api.OctTag), seq()), item(api.IntTag, 7)),
		seq(item(api.OctTag, text(126)...)), seq(item(api.OctTag, text(125)...)), seq(item(api.OctTag, text(252)...)), seq(item(api.OctTag, text(253)...)),
		nested(8), over(item(api.IntTag, 5), 7), seq(nested(7), nested(6), nested(7)),
	}
}

// asBytes is what the chapter says of an item that may be, by the library's own writer.
func asBytes(t *testing.T, x api.Item) []byte {
	t.Helper()
	content := slices.Clone(x.B)
	for _, part := range x.L {
		content = append(content, asBytes(t, part)...)
	}
	// A sequence's tag is 16, with a bit that says that it is made of items.
	b, err := asn1.Marshal(asn1.RawValue{Tag: x.Tag & 31, IsCompound: x.Tag == api.SeqTag, Bytes: content})
	if err != nil {
		t.Fatal(err)
	}
	return b
}

func put(t *testing.T, x api.Item) []byte {
	t.Helper()
	b, e := der.Put(x)
	if e != api.OK {
		t.Fatalf("Put(%v) tells %d", x, e)
	}
	return b
}

func notPut(t *testing.T, what string, want api.Errno, x api.Item) {
	t.Helper()
	if b, e := der.Put(x); len(b) != 0 || e != want {
		t.Errorf("%s: Put is %d bytes, %d, not %d", what, len(b), e, want)
	}
}

func isZero(x api.Item) bool { return x.Tag == 0 && len(x.B) == 0 && len(x.L) == 0 }

func notGot(t *testing.T, what string, want api.Errno, b []byte, at int) {
	t.Helper()
	if x, next, e := der.Get(b, at); !isZero(x) || next != 0 || e != want {
		t.Errorf("%s: Get(%v, %d) is %v, %d, %d, not %d", what, b, at, x, next, e, want)
	}
}

// same is what the chapter says of it.
func same(a, b api.Item) bool {
	if a.Tag != b.Tag || string(a.B) != string(b.B) || len(a.L) != len(b.L) {
		return false
	}
	for k := range a.L {
		if !same(a.L[k], b.L[k]) {
			return false
		}
	}
	return true
}

func got(t *testing.T, want api.Item, end int, b []byte, at int) {
	t.Helper()
	if x, next, e := der.Get(b, at); !same(x, want) || next != end || e != api.OK {
		t.Errorf("Get(%v, %d) is %v, %d, %d, not %v, %d", b, at, x, next, e, want, end)
	}
}

// P7.1

// The chapter's example, and one of the whole.
func TestBytesOfTheChapter(t *testing.T) {
	x := der.Seq(der.Int(5), der.Int(-128), der.Text("ab"))
	b := []byte{48, 10, 2, 1, 5, 2, 1, 128, 12, 2, 97, 98}
	if n, e := der.Put(x); !bytes.Equal(n, b) || e != api.OK {
		t.Error("the sequence:", n, e)
	}
	got(t, x, len(b), b, 0)
	if n, e := der.Put(der.Int(128)); !bytes.Equal(n, []byte{2, 2, 0, 128}) || e != api.OK {
		t.Error("128:", n, e)
	}
}

func TestBytesOfItems(t *testing.T) {
	for _, x := range []struct {
		x    api.Item
		want []byte
	}{
		{der.Bool(false), []byte{1, 1, 0}},
		{der.Bool(true), []byte{1, 1, 255}},
		{der.Int(0), []byte{2, 1, 0}},
		{der.Oct(nil), []byte{4, 0}},
		{der.Oct([]byte{9, 8}), []byte{4, 2, 9, 8}},
		{der.Text(""), []byte{12, 0}},
		{der.Seq(), []byte{48, 0}},
		{der.Seq(der.Seq(), der.Bool(true)), []byte{48, 5, 48, 0, 1, 1, 255}},
		{der.Oct(text(127)), append([]byte{4, 127}, text(127)...)},
		{der.Oct(text(128)), append([]byte{4, 129, 128}, text(128)...)},
		{der.Oct(text(255)), append([]byte{4, 129, 255}, text(255)...)},
		{der.Oct(text(256)), append([]byte{4, 130, 1, 0}, text(256)...)},
		{der.Oct(text(8188)), append([]byte{4, 130, 31, 252}, text(8188)...)},
	} {
		if b := put(t, x.x); !bytes.Equal(b, x.want) {
			t.Errorf("Put(%v) is %v, not %v", x.x, b, x.want)
		}
	}
	for _, x := range items() {
		if b, want := put(t, x), asBytes(t, x); !bytes.Equal(b, want) {
			t.Errorf("Put(%v) is %v, not %v", x, b, want)
		}
	}
}

func TestBytesOfItemsOfAnyLength(t *testing.T) {
	for _, length := range []int{0, 1, 126, 127, 128, 129, 254, 255, 256, 257, 511, 512, 4096, 8186, 8187, 8188} {
		for _, x := range []api.Item{der.Oct(text(length)), der.Text(strings.Repeat("~", length))} {
			b := put(t, x)
			if want := asBytes(t, x); !bytes.Equal(b, want) {
				t.Errorf("of %d bytes it is %v, not %v", length, b, want)
			}
			got(t, x, len(b), b, 0)
		}
	}
}

func TestWhatIsNotPut(t *testing.T) {
	for _, x := range noItems() {
		notPut(t, "alone", api.ErrArg, x)
		notPut(t, "in a sequence", api.ErrArg, seq(x))
		notPut(t, "the last one", api.ErrArg, seq(item(api.IntTag, 5), x))
		notPut(t, "the first one", api.ErrArg, seq(x, item(api.IntTag, 5)))
		notPut(t, "the deepest one", api.ErrArg, over(x, 7))
	}
}

func TestHowDeepItemsMayBe(t *testing.T) {
	for deep := 1; deep <= 8; deep++ {
		if b, want := put(t, nested(deep)), asBytes(t, nested(deep)); !bytes.Equal(b, want) {
			t.Errorf("%d deep it is %v, not %v", deep, b, want)
		}
		put(t, over(item(api.OctTag, 1), deep-1))
	}
	for _, deep := range []int{9, 10, 100, 1 << 16} {
		notPut(t, "sequences", api.ErrArg, nested(deep))
		notPut(t, "an octet string", api.ErrArg, over(item(api.OctTag, 1), deep-1))
		notPut(t, "the last one", api.ErrArg, seq(seq(), nested(deep-1)))
		notPut(t, "the first one", api.ErrArg, seq(nested(deep-1), seq()))
	}
}

func TestHowManyBytesItemsMayHave(t *testing.T) {
	for _, x := range []api.Item{
		der.Oct(text(8188)), der.Text(strings.Repeat("a", 8188)), seq(der.Oct(text(8184))), over(der.Oct(text(8164)), 6),
		seq(der.Oct(text(4000)), der.Oct(text(4180))), api.Item{Tag: api.SeqTag, L: slices.Repeat([]api.Item{seq()}, 4094)},
	} {
		b := put(t, x)
		if len(b) != 8192 {
			t.Fatal("so many bytes:", len(b))
		}
		got(t, x, 8192, b, 0)
		notPut(t, "in one more", api.ErrBound, seq(x))
	}
	for _, x := range []api.Item{
		der.Oct(text(8189)), der.Text(strings.Repeat("a", 8189)), seq(der.Oct(text(8185))), over(der.Oct(text(8165)), 6), over(der.Oct(text(8161)), 7),
		seq(der.Oct(text(4000)), der.Oct(text(4181))), api.Item{Tag: api.SeqTag, L: slices.Repeat([]api.Item{seq()}, 4095)},
		der.Oct(text(8192)), der.Oct(text(65535)), der.Oct(text(65536)), der.Oct(text(65536 + 5)), der.Oct(text(1 << 24)),
		seq(der.Oct(text(65536)), der.Oct(text(65536))), seq(seq(der.Oct(text(8189)))),
	} {
		notPut(t, "more", api.ErrBound, x)
	}
}

// What may not be is told ahead of that there is too much of it.
func TestWhichErrorOfPutIsTold(t *testing.T) {
	notPut(t, "a text", api.ErrArg, der.Text(strings.Repeat("a", 9000)+"\n"))
	notPut(t, "a tag", api.ErrArg, item(5, text(9000)...))
	notPut(t, "an int", api.ErrArg, item(api.IntTag, text(9000)...))
	notPut(t, "the last item", api.ErrArg, seq(der.Oct(text(9000)), item(api.BoolTag, 1)))
	notPut(t, "too deep", api.ErrArg, over(der.Oct(text(9000)), 8))
	notPut(t, "as deep as may be", api.ErrBound, over(der.Oct(text(9000)), 7))
}

// P7.2

func TestWhereToReadFrom(t *testing.T) {
	b := []byte{2, 1, 5}
	for _, at := range []int{math.MinInt, -3, -1, 4, 5, math.MaxInt} {
		notGot(t, "outside", api.ErrArg, b, at)
	}
	notGot(t, "outside of nothing", api.ErrArg, nil, 1)
	notGot(t, "outside of nothing", api.ErrArg, nil, -1)
	notGot(t, "the end", api.ErrShort, b, 3)
	notGot(t, "the end of nothing", api.ErrShort, nil, 0)
	got(t, der.Int(5), 3, b, 0)
	// The 1 is a tag, and the length behind it is 5.
	notGot(t, "in the middle", api.ErrShort, b, 1)
	notGot(t, "in the middle", api.ErrForm, b, 2)
}

func TestItemsOfBytes(t *testing.T) {
	for _, x := range items() {
		b := asBytes(t, x)
		got(t, x, len(b), b, 0)
		for _, ahead := range []int{1, 2, 9000} {
			got(t, x, ahead+len(b), append(text(ahead), b...), ahead)
		}
		// What stands behind an item is not looked at.
		for _, behind := range [][]byte{{0}, {5}, {2, 1}, {2, 1, 5}, text(9000)} {
			got(t, x, len(b), slices.Concat(b, behind), 0)
			got(t, x, 3+len(b), slices.Concat([]byte{2, 1, 5}, b, behind), 3)
		}
	}
}

func TestBytesThatEnd(t *testing.T) {
	for _, x := range items() {
		b := asBytes(t, x)
		for end := range b {
			notGot(t, "it ends", api.ErrShort, b[:end], 0)
			notGot(t, "it ends, behind others", api.ErrShort, append([]byte{5, 5, 5}, b[:end]...), 3)
		}
	}
}

func TestTagsThatAreNone(t *testing.T) {
	for tag := range 256 {
		if slices.Contains(tags(), tag) {
			notGot(t, "a tag alone", api.ErrShort, []byte{byte(tag)}, 0)
			continue
		}
		for _, behind := range [][]byte{{}, {0}, {1, 0}, {128}, {131, 0}, {130, 255, 255}} {
			notGot(t, "no tag", api.ErrForm, append([]byte{byte(tag)}, behind...), 0)
		}
	}
}

func TestLengthsOfAnotherForm(t *testing.T) {
	for _, tag := range tags() {
		of := func(b ...byte) []byte { return append([]byte{byte(tag)}, b...) }
		for first := 128; first < 256; first++ {
			if first == 129 || first == 130 {
				continue
			}
			notGot(t, "first", api.ErrForm, of(byte(first)), 0)
			notGot(t, "first", api.ErrForm, of(append([]byte{byte(first)}, make([]byte, 300)...)...), 0)
		}
		notGot(t, "129 alone", api.ErrShort, of(129), 0)
		notGot(t, "130 alone", api.ErrShort, of(130), 0)
		for low := range 256 {
			notGot(t, "130 and one", api.ErrShort, of(130, byte(low)), 0)
		}
		for length := range 128 {
			notGot(t, "129, which could be less", api.ErrForm, of(129, byte(length)), 0)
			notGot(t, "129, which could be less", api.ErrForm, append(of(129, byte(length)), make([]byte, length)...), 0)
		}
		for length := 128; length < 256; length++ {
			notGot(t, "129, and nothing", api.ErrShort, of(129, byte(length)), 0)
			notGot(t, "129, and one less", api.ErrShort, append(of(129, byte(length)), make([]byte, length-1)...), 0)
		}
		for length := range 256 {
			notGot(t, "130, which could be less", api.ErrForm, of(130, 0, byte(length)), 0)
			notGot(t, "130, which could be less", api.ErrForm, append(of(130, 0, byte(length)), make([]byte, length)...), 0)
		}
		for _, length := range []int{256, 257, 511, 512, 4096, 8187, 8188} {
			long := of(130, byte(length>>8), byte(length))
			notGot(t, "130, and nothing", api.ErrShort, long, 0)
			notGot(t, "130, and one less", api.ErrShort, append(long, make([]byte, length-1)...), 0)
		}
		// More than there may be is told ahead of that it is not there.
		for _, length := range []int{8189, 8190, 8192, 16384, 32768, 65535} {
			long := of(130, byte(length>>8), byte(length))
			notGot(t, "more", api.ErrForm, long, 0)
			notGot(t, "more", api.ErrForm, append(long, make([]byte, length)...), 0)
		}
	}
}

// What the content is, is asked when all of it is there.
func TestContentsThatMayNotBe(t *testing.T) {
	for _, x := range noItems() {
		if !slices.Contains(tags(), x.Tag) || x.Tag == api.SeqTag || len(x.L) > 0 {
			continue
		}
		b := append([]byte{byte(x.Tag), byte(len(x.B))}, x.B...)
		notGot(t, "alone", api.ErrForm, b, 0)
		notGot(t, "with others behind", api.ErrForm, append(b, 2, 1, 5), 0)
		notGot(t, "in a sequence", api.ErrForm, append([]byte{48, byte(len(b))}, b...), 0)
		notGot(t, "the last one", api.ErrForm, append([]byte{48, byte(3 + len(b)), 2, 1, 5}, b...), 0)
		if len(x.B) > 0 {
			notGot(t, "it ends", api.ErrShort, b[:len(b)-1], 0)
		}
	}
}

// A sequence has all that its items are in itself, and nothing else.
func TestContentsOfSequences(t *testing.T) {
	for _, content := range [][]byte{
		{0}, {2}, {5}, {2, 1}, {2, 1, 5, 0}, {2, 1, 5, 2}, {2, 1, 5, 2, 1}, {2, 2, 5}, {4, 129}, {4, 129, 128}, {4, 130}, {4, 130, 1}, {4, 130, 1, 0}, {4, 130, 31, 253},
		{4, 128}, {4, 131}, {4, 129, 1, 9}, {4, 130, 0, 1, 9}, {48, 1}, {48, 3, 2, 1}, {48, 1, 2}, {48, 2, 2, 1, 5}, {5, 0}, {2, 1, 5, 48, 1, 5}, {2, 2, 0, 5}, {48, 0, 48},
	} {
		b := append([]byte{48, byte(len(content))}, content...)
		notGot(t, "alone", api.ErrForm, b, 0)
		// What is missing stands behind the sequence, and is not its own.
		notGot(t, "with more behind", api.ErrForm, append(b, make([]byte, 9000)...), 0)
		notGot(t, "with an int behind", api.ErrForm, append(b, 5, 2, 1, 5), 0)
		notGot(t, "in another one", api.ErrForm, append([]byte{48, byte(len(b))}, b...), 0)
		notGot(t, "it ends", api.ErrShort, b[:len(b)-1], 0)
	}
	got(t, seq(item(api.IntTag, 5), item(api.IntTag, 6)), 8, []byte{48, 6, 2, 1, 5, 2, 1, 6, 2, 1, 7}, 0)
}

func TestHowDeepBytesMayBe(t *testing.T) {
	for deep := 1; deep <= 20; deep++ {
		for _, x := range []api.Item{nested(deep), over(item(api.OctTag, 1), deep-1), seq(nested(deep-1), seq()), seq(seq(), nested(deep-1))} {
			if deep == 1 && len(x.L) > 0 {
				continue
			}
			b := asBytes(t, x)
			if deep <= 8 {
				got(t, x, len(b), b, 0)
			} else {
				notGot(t, "deep", api.ErrForm, b, 0)
				notGot(t, "deep, and it ends", api.ErrShort, b[:len(b)-1], 0)
			}
		}
	}
	deepest := nested(2000)
	notGot(t, "as deep as bytes go", api.ErrForm, asBytes(t, deepest), 0)
}

// P7.3

func TestItemsOfInts(t *testing.T) {
	for _, x := range []struct {
		n    int
		want []byte
	}{
		{0, []byte{0}}, {1, []byte{1}}, {5, []byte{5}}, {127, []byte{127}}, {128, []byte{0, 128}}, {255, []byte{0, 255}}, {256, []byte{1, 0}},
		{32767, []byte{127, 255}}, {32768, []byte{0, 128, 0}}, {65535, []byte{0, 255, 255}}, {65536, []byte{1, 0, 0}},
		{-1, []byte{255}}, {-127, []byte{129}}, {-128, []byte{128}}, {-129, []byte{255, 127}}, {-255, []byte{255, 1}}, {-256, []byte{255, 0}}, {-257, []byte{254, 255}},
		{-32768, []byte{128, 0}}, {-32769, []byte{255, 127, 255}},
		{math.MaxInt, []byte{127, 255, 255, 255, 255, 255, 255, 255}}, {math.MinInt, []byte{128, 0, 0, 0, 0, 0, 0, 0}},
		{math.MaxInt >> 8, []byte{127, 255, 255, 255, 255, 255, 255}}, {math.MaxInt>>8 + 1, []byte{0, 128, 0, 0, 0, 0, 0, 0}},
		{math.MinInt >> 8, []byte{128, 0, 0, 0, 0, 0, 0}}, {math.MinInt>>8 - 1, []byte{255, 127, 255, 255, 255, 255, 255, 255}},
	} {
		if y := der.Int(x.n); !same(y, item(api.IntTag, x.want...)) {
			t.Errorf("Int(%d) is %v, not %v", x.n, y, x.want)
		}
	}
}

// ints are those about each power of two, and such as are strewn over all 64 bits.
func ints() []int {
	l := []int{0, math.MaxInt, math.MinInt}
	for k := range 63 {
		for more := -2; more <= 2; more++ {
			l = append(l, 1<<k+more, -1<<k+more)
		}
	}
	x := uint64(88172645463325252)
	for range 200 {
		x ^= x << 13
		x ^= x >> 7
		x ^= x << 17
		l = append(l, int(x), int(x)>>(x%64))
	}
	return l
}

func TestItemsOfIntsAreWhatTheLibraryWrites(t *testing.T) {
	for _, n := range ints() {
		want, err := asn1.Marshal(int64(n))
		if err != nil {
			t.Fatal(err)
		}
		if b := put(t, der.Int(n)); !bytes.Equal(b, want) {
			t.Errorf("Int(%d) is written as %v, not %v", n, b, want)
		}
		if back, e := der.AsInt(der.Int(n)); back != n || e != api.OK {
			t.Errorf("Int(%d) is %d, %d", n, back, e)
		}
	}
}

// What is made is what it is made of, whether it may be or not.
func TestItemsOfOthers(t *testing.T) {
	for _, s := range []string{"", "a", "ab", "\x00", "\xff\xfe", "a\nb", "ä", strings.Repeat("x", 9000)} {
		if x := der.Text(s); !same(x, item(api.TextTag, []byte(s)...)) {
			t.Errorf("Text(%q) is %v", s, x)
		}
		if x := der.Oct([]byte(s)); !same(x, item(api.OctTag, []byte(s)...)) {
			t.Errorf("Oct of %q is %v", s, x)
		}
	}
	if x := der.Oct(nil); !same(x, item(api.OctTag)) {
		t.Error("Oct of none:", x)
	}
	if x, y := der.Bool(true), der.Bool(false); !same(x, item(api.BoolTag, 255)) || !same(y, item(api.BoolTag, 0)) {
		t.Error("Bool:", x, y)
	}
	if x := der.Seq(); !same(x, seq()) {
		t.Error("Seq of none:", x)
	}
	for _, l := range [][]api.Item{items(), noItems(), {nested(8)}, {nested(20), {}, item(5, 1)}} {
		if x := der.Seq(l...); !same(x, seq(l...)) {
			t.Errorf("Seq(%v) is %v", l, x)
		}
	}
}

// P7.4

// asked is what each of the five tells of an item, as numbers of errors, in the order of tags; and whether what stands beside an error is zero.
func asked(x api.Item) (errs [5]api.Errno, zero bool) {
	v, e0 := der.AsBool(x)
	n, e1 := der.AsInt(x)
	b, e2 := der.AsOct(x)
	s, e3 := der.AsText(x)
	l, e4 := der.AsSeq(x)
	zero = (e0 == api.OK || !v) && (e1 == api.OK || n == 0) && (e2 == api.OK || len(b) == 0) && (e3 == api.OK || s == "") && (e4 == api.OK || len(l) == 0)
	return [5]api.Errno{e0, e1, e2, e3, e4}, zero
}

func askedIs(t *testing.T, what string, own api.Errno, x api.Item) {
	t.Helper()
	var want [5]api.Errno
	for k, tag := range tags() {
		want[k] = api.ErrType
		if x.Tag == tag {
			want[k] = own
		}
	}
	if errs, zero := asked(x); errs != want || !zero {
		t.Errorf("%s: %v tells %v, not %v", what, x, errs, want)
	}
}

func TestItemsAreOfTheirTagAlone(t *testing.T) {
	for _, x := range items() {
		askedIs(t, "it may be", api.OK, x)
	}
	for _, x := range noItems() {
		askedIs(t, "it may not be", api.ErrForm, x)
		askedIs(t, "one that may not be in it", api.ErrForm, seq(item(api.IntTag, 5), x))
		askedIs(t, "one that may not be deep in it", api.ErrForm, over(x, 7))
	}
	for _, deep := range []int{9, 10, 1 << 16} {
		askedIs(t, "too deep", api.ErrForm, nested(deep))
	}
}

// How many bytes an item has is Put's business alone.
func TestGreatItemsAreWhatTheyAre(t *testing.T) {
	if b, e := der.AsOct(der.Oct(text(100000))); !bytes.Equal(b, text(100000)) || e != api.OK {
		t.Error("bytes:", len(b), e)
	}
	if s, e := der.AsText(der.Text(strings.Repeat("a", 100000))); s != strings.Repeat("a", 100000) || e != api.OK {
		t.Error("a text:", len(s), e)
	}
	if l, e := der.AsSeq(seq(der.Oct(text(100000)), der.Int(5))); len(l) != 2 || !same(l[0], item(api.OctTag, text(100000)...)) || !same(l[1], item(api.IntTag, 5)) || e != api.OK {
		t.Error("a sequence:", len(l), e)
	}
}

func TestWhatItemsAreOf(t *testing.T) {
	for _, x := range []struct {
		b    []byte
		want int
	}{
		{[]byte{0}, 0}, {[]byte{127}, 127}, {[]byte{128}, -128}, {[]byte{255}, -1}, {[]byte{0, 128}, 128}, {[]byte{255, 127}, -129},
		{[]byte{127, 255, 255, 255, 255, 255, 255, 255}, math.MaxInt}, {[]byte{128, 0, 0, 0, 0, 0, 0, 0}, math.MinInt},
		{[]byte{1, 2, 3, 4, 5, 6, 7, 8}, 0x0102030405060708},
	} {
		if n, e := der.AsInt(item(api.IntTag, x.b...)); n != x.want || e != api.OK {
			t.Errorf("AsInt of %v is %d, %d, not %d", x.b, n, e, x.want)
		}
	}
	for _, s := range []string{"", " ", "~", "ab", " !~", strings.Repeat("x", 200)} {
		if back, e := der.AsText(der.Text(s)); back != s || e != api.OK {
			t.Errorf("AsText of %q is %q, %d", s, back, e)
		}
	}
	for length := range 300 {
		if b, e := der.AsOct(der.Oct(text(length))); !bytes.Equal(b, text(length)) || e != api.OK {
			t.Errorf("AsOct of %d bytes is %v, %d", length, b, e)
		}
	}
	for _, v := range []bool{false, true} {
		if back, e := der.AsBool(der.Bool(v)); back != v || e != api.OK {
			t.Errorf("AsBool of %v is %v, %d", v, back, e)
		}
	}
	shallow := items()
	shallow = slices.DeleteFunc(shallow, func(x api.Item) bool { _, e := der.Put(seq(x)); return e != api.OK })
	for many := range len(shallow) + 1 {
		l, e := der.AsSeq(der.Seq(shallow[:many]...))
		if !same(seq(l...), seq(shallow[:many]...)) || e != api.OK {
			t.Errorf("AsSeq of %v is %v, %d", shallow[:many], l, e)
		}
	}
}

// P7.5

func TestWhatIsTheSame(t *testing.T) {
	all := append(items(), noItems()...)
	all = append(all, seq(item(api.IntTag, 5)), seq(item(api.IntTag, 5), item(api.IntTag, 5)), seq(item(api.IntTag, 5), item(api.IntTag, 6)), seq(item(api.IntTag, 6), item(api.IntTag, 5)),
		seq(seq(item(api.IntTag, 5))), nested(9), nested(10), over(item(api.IntTag, 5), 20), over(item(api.IntTag, 6), 20), item(api.OctTag, 5), item(api.TextTag, 5))
	for _, x := range all {
		for _, y := range all {
			if der.Same(x, y) != same(x, y) {
				t.Errorf("Same(%v, %v) is %v", x, y, der.Same(x, y))
			}
		}
		if !der.Same(x, x) || !der.Same(seq(x), seq(x)) {
			t.Errorf("%v is not the same as itself", x)
		}
		if der.Same(x, seq(x)) || der.Same(seq(x), seq(x, x)) {
			t.Errorf("%v is the same as what it is in", x)
		}
	}
}

func TestNothingIsTheSameAsNone(t *testing.T) {
	none := api.Item{Tag: api.SeqTag}
	empty := api.Item{Tag: api.SeqTag, B: []byte{}, L: []api.Item{}}
	if !der.Same(none, empty) || !der.Same(empty, none) || !der.Same(seq(none), seq(empty)) {
		t.Error("none is not the same as empty")
	}
	for _, x := range []api.Item{none, empty, {Tag: api.OctTag, B: []byte{}, L: []api.Item{}}, {Tag: api.OctTag}} {
		if b := put(t, x); !bytes.Equal(b, []byte{byte(x.Tag), 0}) {
			t.Errorf("Put(%v) is %v", x, b)
		}
	}
	if !der.Same(nested(1<<16), nested(1<<16)) || der.Same(nested(1<<16), nested(1<<16-1)) {
		t.Error("as deep as may be")
	}
}

// P7.6

// letters are bytes of which each means something somewhere.
func letters() []byte { return []byte{0, 1, 2, 3, 4, 12, 48, 127, 128, 129, 130, 255} }

// strung are all bytes of letters, so many.
func strung(length int) [][]byte {
	all := [][]byte{nil}
	for range length {
		var longer [][]byte
		for _, b := range all {
			for _, x := range letters() {
				longer = append(longer, append(slices.Clone(b), x))
			}
		}
		all = longer
	}
	return all
}

// written are the bytes of all items of letters that have so many bytes, as the chapter says, made from the inside.
func written(size int) []string {
	var l []string
	for _, b := range strung(size - 2) {
		head := func(tag byte) string { return string([]byte{tag, byte(size - 2)}) }
		if len(b) == 1 && (b[0] == 0 || b[0] == 255) {
			l = append(l, head(1)+string(b))
		}
		nine := binary.BigEndian.Uint16(append(slices.Clone(b), 0, 0)) >> 7
		if len(b) == 1 || len(b) > 1 && nine != 0 && nine != 1<<9-1 {
			l = append(l, head(2)+string(b))
		}
		l = append(l, head(4)+string(b))
		if !slices.ContainsFunc(b, func(x byte) bool { return x < 32 || x > 126 }) {
			l = append(l, head(12)+string(b))
		}
	}
	for _, content := range filled(size - 2) {
		l = append(l, string([]byte{48, byte(size - 2)})+content)
	}
	return l
}

// filled are the bytes of items, one behind the other, that have so many together.
func filled(size int) []string {
	if size == 0 {
		return []string{""}
	}
	var l []string
	for first := 2; first <= size; first++ {
		for _, a := range written(first) {
			for _, b := range filled(size - first) {
				l = append(l, a+b)
			}
		}
	}
	return l
}

// Of all bytes of letters just those are read to their end that are some item's.
func TestWhatIsPutIsGotAndNothingElseIs(t *testing.T) {
	for size := range 6 {
		want := map[string]bool{}
		if size >= 2 {
			for _, s := range written(size) {
				if want[s] {
					t.Errorf("%v is of two items", []byte(s))
				}
				want[s] = true
			}
		}
		for _, b := range strung(size) {
			x, next, e := der.Get(b, 0)
			if whole := e == api.OK && next == size; whole != want[string(b)] {
				t.Errorf("Get(%v, 0) is %v, %d, %d", b, x, next, e)
			}
			if e != api.OK {
				continue
			}
			if back := put(t, x); !bytes.Equal(back, b[:next]) {
				t.Errorf("%v is written as %v", b[:next], back)
			}
		}
	}
}

// No two items have the same bytes, and what is read of them is just the item.
func TestItemsHaveBytesOfTheirOwn(t *testing.T) {
	all := items()
	for _, n := range ints() {
		all = append(all, der.Int(n))
	}
	met := map[string]api.Item{}
	for _, x := range all {
		b := put(t, x)
		got(t, x, len(b), b, 0)
		if other, ok := met[string(b)]; ok && !same(x, other) {
			t.Errorf("%v and %v have the same bytes", x, other)
		}
		met[string(b)] = x
	}
}

// Bytes of which one is another one are of no item, or of another one.
func TestAByteThatIsAnotherOneIsFoundOut(t *testing.T) {
	b := put(t, der.Seq(der.Int(5), der.Int(-129), der.Text("ab"), der.Seq(der.Bool(true), der.Oct([]byte{1, 2})), der.Oct(text(130))))
	x, _, _ := der.Get(b, 0)
	for k := range b {
		for more := 1; more < 256; more++ {
			other := slices.Clone(b)
			other[k] += byte(more)
			y, next, e := der.Get(other, 0)
			if e != api.OK {
				continue
			}
			if der.Same(x, y) {
				t.Errorf("%v is read as %v is", other, b)
			}
			if back := put(t, y); !bytes.Equal(back, other[:next]) {
				t.Errorf("%v is written as %v", other[:next], back)
			}
		}
	}
}

// R2

func TestNothingIsChangedAndNothingIsShared(t *testing.T) {
	b := []byte{1, 2, 3}
	inner := []api.Item{der.Oct(b), der.Int(5)}
	l := []api.Item{seq(inner...), der.Text("ab")}
	x := der.Seq(l...)
	o := der.Oct(b)
	want := seq(seq(item(api.OctTag, 1, 2, 3), item(api.IntTag, 5)), item(api.TextTag, 'a', 'b'))
	written := put(t, x)
	kept := bytes.Clone(written)
	back, next, e := der.Get(written, 0)
	parts, _ := der.AsSeq(x)
	bytesOf, _ := der.AsOct(o)
	if !same(x, want) || !same(back, want) || !same(seq(parts...), want) || next != len(written) || e != api.OK {
		t.Fatal("made otherwise:", x, back, parts, next, e)
	}
	// Whoever handed in writes into it.
	b[0], written[4] = 99, 99
	inner[1], l[1] = der.Int(6), der.Int(7)
	inner[0].B[0] = 99
	if !same(x, want) || !same(back, want) || !same(seq(parts...), want) || !same(o, item(api.OctTag, 1, 2, 3)) || !bytes.Equal(bytesOf, []byte{1, 2, 3}) {
		t.Error("changed behind the call:", x, back, parts, o, bytesOf)
	}
	// And whoever was answered writes into that.
	parts[0].L[0].B[0], parts[1] = 77, der.Int(1)
	back.L[0].L[1] = der.Int(8)
	bytesOf[0] = 77
	if !same(x, want) || !same(o, item(api.OctTag, 1, 2, 3)) {
		t.Error("what was handed in was changed:", x, o)
	}
	if !bytes.Equal(put(t, x), kept) {
		t.Error("another answer to the same question")
	}
}
