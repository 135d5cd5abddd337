package hash_test

import (
	"bytes"
	"encoding/binary"
	"math"
	"math/big"
	"slices"
	"strings"
	"testing"

	"greatseal/api"
	"greatseal/field"
	"greatseal/hash"
)

const p = uint64(api.P)

// edges are the numbers at which a state may be reduced wrongly, or not at all.
func edges() []uint64 {
	return []uint64{0, 1, 2, 7, p - 2, p - 1, p, p + 1, 2 * p, 1 << 61, 1 << 63, 7*p + 3, 8 * p, math.MaxUint64 - 1, math.MaxUint64}
}

// strewn are numbers over all 64 bits, the same ones in each run.
func strewn(count int) []uint64 {
	l := make([]uint64, count)
	x := uint64(88172645463325252)
	for k := range l {
		x ^= x << 13
		x ^= x >> 7
		x ^= x << 17
		l[k] = x
	}
	return l
}

// states are all triples of edges, and strewn ones.
func states() [][3]uint64 {
	var l [][3]uint64
	for _, a := range edges() {
		for _, b := range edges() {
			for _, c := range edges() {
				l = append(l, [3]uint64{a, b, c})
			}
		}
	}
	for three := range slices.Chunk(strewn(300), 3) {
		l = append(l, [3]uint64(three))
	}
	return l
}

// text is bytes that are all unlike their neighbours.
func text(length int) []byte {
	b := make([]byte, length)
	for k := range b {
		b[k] = byte(k*37 + length)
	}
	return b
}

func whole(n uint64) *big.Int { return new(big.Int).SetUint64(n) }

func modP(n *big.Int) *big.Int { return n.Mod(n, whole(p)) }

// mixed is what the chapter says of Mix, of whole numbers, one by one.
func mixed(s [3]uint64) [3]uint64 {
	var x [3]*big.Int
	for i := range x {
		x[i] = modP(whole(s[i]))
	}
	for r := range int64(8) {
		for i := range x {
			added := new(big.Int).Exp(big.NewInt(3*r+int64(i)+1), big.NewInt(3), nil)
			x[i] = new(big.Int).Add(x[i], added.Add(added, big.NewInt(7)))
			x[i].Exp(x[i], big.NewInt(17), whole(p))
		}
		x = [3]*big.Int{weighed(x, 2, 1, 1), weighed(x, 1, 2, 1), weighed(x, 1, 1, 2)}
	}
	return [3]uint64{x[0].Uint64(), x[1].Uint64(), x[2].Uint64()}
}

func weighed(x [3]*big.Int, weights ...int64) *big.Int {
	sum := new(big.Int)
	for i, w := range weights {
		sum.Add(sum, new(big.Int).Mul(x[i], big.NewInt(w)))
	}
	return modP(sum)
}

// summed is what the chapter says of Sum: pairs of seven bytes, the last of them filled up.
func summed(b []byte) api.Sum {
	s := [3]uint64{0, 0, uint64(len(b))}
	if len(b) == 0 {
		s = mixed(s)
	}
	for at := 0; at < len(b); at += 14 {
		next := make([]byte, 16)
		copy(next, b[at:min(at+7, len(b))])
		if at+7 < len(b) {
			copy(next[8:], b[at+7:min(at+14, len(b))])
		}
		for i := range 2 {
			x := new(big.Int).Add(whole(s[i]), whole(binary.LittleEndian.Uint64(next[8*i:])))
			s[i] = modP(x).Uint64()
		}
		s = mixed(s)
	}
	return api.Sum{s[0], s[1]}
}

// laid is what Tagged hashes.
func laid(tag string, parts ...[]byte) []byte {
	b := append([]byte{byte(len(tag))}, tag...)
	for _, part := range parts {
		b = binary.BigEndian.AppendUint32(b, uint32(len(part)))
		b = append(b, part...)
	}
	return b
}

// P2.1

func TestMixOfNumbers(t *testing.T) {
	for _, x := range []struct{ s, want [3]uint64 }{
		{[3]uint64{0, 0, 0}, [3]uint64{2185702895930653678, 1690651809194266183, 2028997447461554619}},
		{[3]uint64{7, 0, 1}, [3]uint64{1047328767133037939, 1223960739234497268, 919370473849713800}},
		{[3]uint64{1, 2, 3}, [3]uint64{222082275414926324, 1190978054190873677, 461640328577543685}},
		{[3]uint64{p - 1, p - 1, p - 1}, [3]uint64{1958729741196922251, 1243582050304303328, 808889704288032113}},
		{[3]uint64{math.MaxUint64, 1 << 63, 1 << 62}, [3]uint64{1791035860534022629, 2120856800151173294, 572871060609700973}},
	} {
		if s := hash.Mix(x.s); s != x.want {
			t.Errorf("Mix(%v) is %v, not %v", x.s, s, x.want)
		}
	}
}

func TestMixIsThatOfWholeNumbers(t *testing.T) {
	for _, s := range states() {
		if got, want := hash.Mix(s), mixed(s); got != want {
			t.Errorf("Mix(%v) is %v, not %v", s, got, want)
		}
	}
}

func TestMixTakesNumbersModuloP(t *testing.T) {
	for _, s := range states() {
		if hash.Mix(s) != hash.Mix([3]uint64{s[0] % p, s[1] % p, s[2] % p}) {
			t.Errorf("Mix(%v) is not that of what is left of it modulo P", s)
		}
	}
	for i := range 3 {
		var s [3]uint64
		s[i] = p
		if hash.Mix(s) != hash.Mix([3]uint64{}) {
			t.Errorf("P is not 0, at %d", i)
		}
	}
}

func TestMixTellsElements(t *testing.T) {
	for _, s := range states() {
		for i, x := range hash.Mix(s) {
			if x >= p {
				t.Errorf("Mix(%v) has %d at %d", s, x, i)
			}
		}
	}
}

// P2.2

func TestSumOfBytes(t *testing.T) {
	for _, x := range []struct {
		b    []byte
		want api.Sum
	}{
		{nil, api.Sum{2185702895930653678, 1690651809194266183}},
		{[]byte{}, api.Sum{2185702895930653678, 1690651809194266183}},
		{[]byte{7}, api.Sum{1047328767133037939, 1223960739234497268}},
		{[]byte("greatseal"), api.Sum{173420178191233773, 875195322810678183}},
		{[]byte{0, 1, 2, 3, 4, 5, 6, 7, 8, 9, 10, 11, 12, 13}, api.Sum{658763927097589505, 676126219831540748}},
		{[]byte{0, 1, 2, 3, 4, 5, 6, 7, 8, 9, 10, 11, 12, 13, 14}, api.Sum{1423107902025313395, 211519174226615848}},
		{bytes.Repeat([]byte{255}, 28), api.Sum{1655498716786804770, 745297366397087289}},
	} {
		if s := hash.Sum(x.b); s != x.want {
			t.Errorf("Sum(%v) is %v, not %v", x.b, s, x.want)
		}
	}
}

func TestSumsOfTheChapter(t *testing.T) {
	s := hash.Mix([3]uint64{0, 0, 0})
	if hash.Sum(nil) != (api.Sum{s[0], s[1]}) {
		t.Error("Sum of no bytes is not the first two of Mix of 0, 0, 0")
	}
	s = hash.Mix([3]uint64{7, 0, 1})
	if hash.Sum([]byte{7}) != (api.Sum{s[0], s[1]}) {
		t.Error("Sum of the byte 7 is not the first two of Mix of 7, 0, 1")
	}
}

// Of 0 to 7 bytes there is one element at most, of 8 to 14 there are two, and on: each length in which the last pair may end.
func TestSumOfBytesOfAnyLength(t *testing.T) {
	for length := range 90 {
		b := text(length)
		if got, want := hash.Sum(b), summed(b); got != want {
			t.Errorf("Sum(%v) is %v, not %v", b, got, want)
		}
	}
	long := text(70001)
	if hash.Sum(long) != summed(long) {
		t.Error("Sum of 70001 bytes")
	}
}

func TestAnOddElementGoesWithZero(t *testing.T) {
	s := hash.Mix([3]uint64{1, 2, 21})
	s = hash.Mix([3]uint64{field.Add(s[0], 3), s[1], s[2]})
	b := make([]byte, 21)
	b[0], b[7], b[14] = 1, 2, 3
	if hash.Sum(b) != (api.Sum{s[0], s[1]}) {
		t.Error("the third of three elements")
	}
}

func TestHowManyBytesTellsSumsApart(t *testing.T) {
	seen := map[api.Sum]int{}
	for length := range 60 {
		s := hash.Sum(make([]byte, length))
		if other, ok := seen[s]; ok {
			t.Errorf("%d zeros are as %d zeros", length, other)
		}
		seen[s] = length
	}
}

func TestSumLeavesItsBytes(t *testing.T) {
	b := text(40)
	kept := slices.Clone(b)
	first := hash.Sum(b)
	if !slices.Equal(b, kept) || hash.Sum(b) != first {
		t.Error("the bytes, or their hash, were changed")
	}
}

// P2.3

func TestTaggedOfParts(t *testing.T) {
	for _, x := range []struct {
		tag   string
		parts [][]byte
		want  api.Sum
	}{
		{"", nil, api.Sum{1697640947725650765, 629535139676260032}},
		{"", [][]byte{nil}, api.Sum{1748303570382554698, 2277590424250101570}},
		{"secret", [][]byte{[]byte("seed")}, api.Sum{1498489469493650154, 1305385835474643006}},
		{"leaf", [][]byte{[]byte("ab"), []byte("c")}, api.Sum{870407704875069174, 571032192307222989}},
		{"leaf", [][]byte{[]byte("a"), []byte("bc")}, api.Sum{84478134270510249, 1875220386801014348}},
		{strings.Repeat("t", 255), [][]byte{[]byte("x")}, api.Sum{345494486714333309, 798299300249210571}},
		{strings.Repeat("t", 256), [][]byte{[]byte("x")}, api.Sum{416724988735925625, 2122851528660532124}},
		{strings.Repeat("t", 257), [][]byte{[]byte("x")}, api.Sum{228220573845084945, 1123331202303651814}},
	} {
		if s := hash.Tagged(x.tag, x.parts...); s != x.want {
			t.Errorf("Tagged(%q, %v) is %v, not %v", x.tag, x.parts, s, x.want)
		}
	}
}

func TestTaggedIsSumOfWhatIsLaid(t *testing.T) {
	tags := []string{"", "a", "node", "\x00", "é", strings.Repeat("t", 255), strings.Repeat("t", 256), strings.Repeat("t", 257), strings.Repeat("t", 511), strings.Repeat("t", 512), strings.Repeat("t", 700)}
	partings := [][][]byte{nil, {nil}, {{}}, {nil, nil}, {{0}}, {{7}, nil}, {nil, {7}}, {{1, 2}, {3}}, {{1}, {2, 3}}, {text(255), text(256)}, {text(257), nil, text(3)}, {text(65535)}, {text(65536)}, {text(66051)}}
	for _, tag := range tags {
		for k, parts := range partings {
			if got, want := hash.Tagged(tag, parts...), hash.Sum(laid(tag, parts...)); got != want {
				t.Errorf("a tag of %d bytes, parting %d: %v, not %v", len(tag), k, got, want)
			}
		}
	}
}

func TestThePlaceOfEachByteOfALength(t *testing.T) {
	part := text(0x01020304)
	want := hash.Sum(slices.Concat([]byte{1, 'a', 1, 2, 3, 4}, part))
	if hash.Tagged("a", part) != want {
		t.Error("a part of 16909060 bytes")
	}
}

func TestATagOf256BytesBeginsWithZero(t *testing.T) {
	part := text(252)
	tag := string([]byte{0, 0, 0, 252}) + string(part)
	if hash.Tagged(tag) != hash.Tagged("", part) {
		t.Error("how many bytes a tag has is not taken modulo 256")
	}
}

func TestTaggedLeavesItsParts(t *testing.T) {
	room := text(30)
	kept := slices.Clone(room)
	parts := make([][]byte, 2, 5)
	parts[0], parts[1] = room[:5], room[5:9]
	first := hash.Tagged("a", parts...)
	if !slices.Equal(room, kept) || len(parts[0]) != 5 || len(parts[1]) != 4 || parts[:3][2] != nil {
		t.Error("the parts were changed")
	}
	if hash.Tagged("a", parts...) != first {
		t.Error("their hash was changed")
	}
}

func TestPairs(t *testing.T) {
	for _, x := range []struct{ a, b, want api.Sum }{
		{api.Sum{}, api.Sum{}, api.Sum{2132978247048312722, 1903895085312345723}},
		{api.Sum{1, 2}, api.Sum{3, 4}, api.Sum{180520883581536421, 1025600720402937482}},
		{api.Sum{3, 4}, api.Sum{1, 2}, api.Sum{2193346524462743732, 892422155760357937}},
		{api.Sum{math.MaxUint64, p}, api.Sum{0, 1 << 63}, api.Sum{1560332205135658194, 1934430097266372639}},
	} {
		if s := hash.Pair(x.a, x.b); s != x.want {
			t.Errorf("Pair(%v, %v) is %v, not %v", x.a, x.b, s, x.want)
		}
		if hash.Pair(x.a, x.b) != hash.Tagged("node", hash.Bytes(x.a), hash.Bytes(x.b)) {
			t.Errorf("Pair(%v, %v) is not Tagged of node", x.a, x.b)
		}
	}
}

// P2.4

func TestBytesOfHashes(t *testing.T) {
	for _, x := range []struct {
		s    api.Sum
		want []byte
	}{
		{api.Sum{}, make([]byte, 16)},
		{api.Sum{1, 2}, []byte{0, 0, 0, 0, 0, 0, 0, 1, 0, 0, 0, 0, 0, 0, 0, 2}},
		{api.Sum{0x0102030405060708, 0x090a0b0c0d0e0f10}, []byte{1, 2, 3, 4, 5, 6, 7, 8, 9, 10, 11, 12, 13, 14, 15, 16}},
		{api.Sum{p - 1, p}, []byte{0x1f, 255, 255, 255, 255, 255, 255, 254, 0x1f, 255, 255, 255, 255, 255, 255, 255}},
		{api.Sum{math.MaxUint64, 1 << 63}, []byte{255, 255, 255, 255, 255, 255, 255, 255, 128, 0, 0, 0, 0, 0, 0, 0}},
	} {
		if b := hash.Bytes(x.s); !slices.Equal(b, x.want) {
			t.Errorf("Bytes(%v) is %v, not %v", x.s, b, x.want)
		}
	}
}

func TestBytesAreTheCallersAlone(t *testing.T) {
	s := api.Sum{1, 2}
	first := hash.Bytes(s)
	first[15] = 99
	if second := hash.Bytes(s); second[15] != 2 {
		t.Error("changed behind the call:", second)
	}
}

func TestHashesOfBytes(t *testing.T) {
	for _, a := range slices.Concat(edges(), strewn(40)) {
		for _, b := range slices.Concat(edges(), strewn(40)) {
			in := binary.BigEndian.AppendUint64(binary.BigEndian.AppendUint64(nil, a), b)
			want, wantErr := api.Sum{a, b}, api.OK
			if a >= p || b >= p {
				want, wantErr = api.Sum{}, api.ErrForm
			}
			if s, e := hash.Of(in); s != want || e != wantErr {
				t.Errorf("Of(%v) is %v, %d, not %v, %d", in, s, e, want, wantErr)
			}
		}
	}
}

func TestHashesAreReadAsTheyWereWritten(t *testing.T) {
	for length := range 50 {
		s := hash.Sum(text(length))
		if got, e := hash.Of(hash.Bytes(s)); got != s || e != api.OK {
			t.Errorf("%v is read as %v, %d", s, got, e)
		}
	}
}

func TestBytesThatAreNoHash(t *testing.T) {
	for length := range 40 {
		for _, fill := range []byte{0, 1, 255} {
			want := api.OK
			switch {
			case length < 16:
				want = api.ErrShort
			case length > 16 || fill == 255:
				want = api.ErrForm
			}
			s, e := hash.Of(bytes.Repeat([]byte{fill}, length))
			if e != want || e != api.OK && s != (api.Sum{}) {
				t.Errorf("Of %d bytes %d is %v, %d, not %d", length, fill, s, e, want)
			}
		}
	}
	if s, e := hash.Of(nil); e != api.ErrShort || s != (api.Sum{}) {
		t.Error("of nil:", s, e)
	}
	if s, e := hash.Of(make([]byte, 1<<16)); e != api.ErrForm || s != (api.Sum{}) {
		t.Error("of 65536 zeros:", s, e)
	}
}

func TestOfLeavesItsBytes(t *testing.T) {
	b := []byte{1, 2, 3, 4, 5, 6, 7, 8, 9, 10, 11, 12, 13, 14, 15, 16}
	kept := slices.Clone(b)
	if s, e := hash.Of(b); s != (api.Sum{0x0102030405060708, 0x090a0b0c0d0e0f10}) || e != api.OK || !slices.Equal(b, kept) {
		t.Error(s, e, b)
	}
}

// P2.5

func TestNumOfHashes(t *testing.T) {
	for _, x := range []struct {
		s           api.Sum
		below, want uint64
	}{
		{api.Sum{1, 5}, 10, 7},
		{api.Sum{1, 5}, 0, 0},
		{api.Sum{1, 5}, 1, 0},
		{api.Sum{0, 5}, 10, 5},
		{api.Sum{0, 10}, 10, 0},
		{api.Sum{1, 0}, p, 1},
		{api.Sum{1, 0}, math.MaxUint64, 1 << 61},
		{api.Sum{8, 0}, math.MaxUint64, 1},
		{api.Sum{8, 0}, 1 << 63, 0},
		{api.Sum{8, 3}, 1 << 63, 3},
		{api.Sum{7, math.MaxUint64}, 1 << 62, 1<<61 - 1},
		{api.Sum{math.MaxUint64, math.MaxUint64}, 0, 0},
		{api.Sum{math.MaxUint64, math.MaxUint64}, 1, 0},
		{api.Sum{0, math.MaxUint64}, math.MaxUint64, 0},
		{api.Sum{0, math.MaxUint64 - 1}, math.MaxUint64, math.MaxUint64 - 1},
	} {
		if n := hash.Num(x.s, x.below); n != x.want {
			t.Errorf("Num(%v, %d) is %d, not %d", x.s, x.below, n, x.want)
		}
	}
}

func TestNumIsThatOfWholeNumbers(t *testing.T) {
	l := slices.Concat(edges(), strewn(25))
	belows := slices.Concat([]uint64{1, 2, 3, 10, 1 << 32, api.R - 1, api.R, api.Q, p, 1<<63 + 1, math.MaxUint64 - 1, math.MaxUint64}, strewn(20))
	for _, a := range l {
		for _, b := range l {
			n := new(big.Int).Lsh(whole(a), 61)
			n.Add(n, whole(b))
			for _, below := range belows {
				want := new(big.Int).Mod(n, whole(below)).Uint64()
				if got := hash.Num(api.Sum{a, b}, below); got != want {
					t.Errorf("Num of %d and %d, below %d, is %d, not %d", a, b, below, got, want)
				}
			}
			if got := hash.Num(api.Sum{a, b}, 0); got != 0 {
				t.Errorf("Num of %d and %d, below 0, is %d", a, b, got)
			}
		}
	}
}

// P2.6

// unmixed goes back through the rounds: all three together are four times what was added to each.
func unmixed(t *testing.T, s [3]uint64) [3]uint64 {
	quarter, e := field.Inv(4)
	if e != api.OK {
		t.Fatal("4 has no inverse")
	}
	root := new(big.Int).ModInverse(big.NewInt(17), whole(p-1))
	if root == nil {
		t.Fatal("17 has a divisor in common with P - 1")
	}
	for r := range 8 {
		added := field.Mul(quarter, field.Add(field.Add(s[0], s[1]), s[2]))
		for i := range s {
			k := uint64(3*(7-r) + i + 1)
			x := field.Pow(field.Sub(s[i], added), root.Uint64())
			s[i] = field.Sub(x, k*k*k+7)
		}
	}
	return s
}

func TestMixLosesNothing(t *testing.T) {
	for _, s := range states() {
		want := [3]uint64{s[0] % p, s[1] % p, s[2] % p}
		if got := unmixed(t, hash.Mix(s)); got != want {
			t.Errorf("what Mix made of %v came of %v", want, got)
		}
		if got := hash.Mix(unmixed(t, want)); got != want {
			t.Errorf("of nothing Mix makes %v", want)
		}
	}
}

func TestPartsAreNotMistakenForOthers(t *testing.T) {
	seen := map[api.Sum]string{}
	look := func(tag string, parts ...[]byte) {
		s := hash.Tagged(tag, parts...)
		bare := tag + "(" + string(bytes.Join(parts, []byte("|"))) + ")" + strings.Repeat("'", len(parts))
		if other, ok := seen[s]; ok {
			t.Errorf("%q has the hash of %q", bare, other)
		}
		seen[s] = bare
	}
	b := []byte("abcdefgh")
	for x := range len(b) + 1 {
		tag := string(b[:x])
		look(tag)
		for y := x; y <= len(b); y++ {
			look(tag, b[x:y])
			for z := y; z <= len(b); z++ {
				look(tag, b[x:y], b[y:z])
				look(tag, b[x:y], b[y:z], b[z:])
			}
		}
	}
	look("", nil, nil, nil, nil)
	look("", []byte{0, 0, 0, 0})
	look(strings.Repeat("t", 255))
	look(strings.Repeat("t", 254), []byte("t"))
}
