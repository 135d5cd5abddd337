package sieve_test

import (
	"bytes"
	"encoding/binary"
	"math"
	"slices"
	"testing"

	"greatseal/api"
	"greatseal/hash"
	"greatseal/sieve"
)

const mostTime = api.MaxTime

// shape is what a sieve is made of.
type shape struct{ bits, hashes, salt int }

// shapes are those at both ends, and some between.
func shapes() []shape {
	return []shape{
		{8, 1, 0}, {8, 8, 0}, {8, 3, mostTime}, {16, 1, 1}, {16, 3, 258}, {24, 2, 1 << 32}, {64, 3, 16}, {64, 8, mostTime - 1},
		{256, 3, 0}, {2048, 3, 17}, {8184, 8, 12345678901}, {8192, 1, 0}, {8192, 8, mostTime},
	}
}

// noShapes are each wrong in one thing, or in several.
func noShapes() []shape {
	var l []shape
	for _, bits := range []int{math.MinInt, -8, -1, 0, 1, 7, 9, 12, 15, 17, 8191, 8193, 8200, 16384, 1 << 32, 1<<32 + 8, math.MaxInt - 7, math.MaxInt} {
		l = append(l, shape{bits, 3, 0}, shape{bits, 1, mostTime}, shape{bits, 0, -1})
	}
	for _, hashes := range []int{math.MinInt, -1, 0, 9, 10, 256 + 3, 1<<32 + 1, math.MaxInt} {
		l = append(l, shape{8, hashes, 0}, shape{8192, hashes, mostTime})
	}
	for _, salt := range noNumbers() {
		l = append(l, shape{8, 3, salt}, shape{8192, 8, salt})
	}
	return l
}

func numbers() []int {
	return []int{0, 1, 2, 3, 7, 255, 256, 66051, 1 << 31, 1 << 32, 987654321, mostTime - 1, mostTime}
}

func noNumbers() []int {
	return []int{math.MinInt, -mostTime, -256, -1, mostTime + 1, mostTime + 256, 1 << 41, 1 << 62, math.MaxInt}
}

// manyNumbers are so many, each once, and in no order.
func manyNumbers(many int) []int {
	l := make([]int, many)
	for k := range l {
		l[k] = k * 7919 * 104729 % (1 << 39)
	}
	return l
}

func big8(n int) []byte { return binary.BigEndian.AppendUint64(nil, uint64(n)) }

// placesOf is what the chapter says of a number's places.
func placesOf(s shape, n int) []int {
	var l []int
	for k := range s.hashes {
		told := hash.Tagged("sieve", big8(s.salt), []byte{byte(k)}, big8(n))
		l = append(l, int(hash.Num(told, uint64(s.bits))))
	}
	return l
}

// setOf is a sieve of that shape, with the bits at these places set.
func setOf(s shape, places ...int) api.Sieve {
	b := make([]byte, s.bits/8)
	for _, at := range places {
		b[at/8] |= []byte{1, 2, 4, 8, 16, 32, 64, 128}[at%8]
	}
	return api.Sieve{Bits: s.bits, Hashes: s.hashes, Salt: s.salt, B: b}
}

// holding is a sieve of that shape, of these numbers.
func holding(s shape, l ...int) api.Sieve {
	var places []int
	for _, n := range l {
		places = append(places, placesOf(s, n)...)
	}
	return setOf(s, places...)
}

func full(s shape) api.Sieve {
	return api.Sieve{Bits: s.bits, Hashes: s.hashes, Salt: s.salt, B: bytes.Repeat([]byte{255}, s.bits/8)}
}

func same(a, b api.Sieve) bool {
	return a.Bits == b.Bits && a.Hashes == b.Hashes && a.Salt == b.Salt && bytes.Equal(a.B, b.B)
}

// wrong are sieves that are not right, some of which have all bits set.
func wrong() []api.Sieve {
	l := []api.Sieve{{}, {Bits: 8, Hashes: 3}, {Hashes: 3, B: []byte{255}}, {Bits: 8, B: []byte{255}}}
	for _, s := range noShapes() {
		for _, size := range []int{0, 1, 2, max(0, s.bits%4096/8), 1024, 1025} {
			l = append(l, api.Sieve{Bits: s.bits, Hashes: s.hashes, Salt: s.salt, B: bytes.Repeat([]byte{255}, size)})
		}
	}
	for _, s := range shapes() {
		for _, size := range []int{0, s.bits/8 - 1, s.bits/8 + 1, s.bits, 2 * s.bits / 8} {
			l = append(l, api.Sieve{Bits: s.bits, Hashes: s.hashes, Salt: s.salt, B: bytes.Repeat([]byte{255}, size)})
		}
	}
	return l
}

func made(t *testing.T, s shape) api.Sieve {
	t.Helper()
	x, e := sieve.New(s.bits, s.hashes, s.salt)
	if e != api.OK {
		t.Fatalf("New(%v) tells %d", s, e)
	}
	return x
}

func put(t *testing.T, x api.Sieve, l ...int) api.Sieve {
	t.Helper()
	for _, n := range l {
		var e api.Errno
		if x, e = sieve.Put(x, n); e != api.OK {
			t.Fatalf("Put(%v, %d) tells %d", x, n, e)
		}
	}
	return x
}

func of(t *testing.T, s shape, l ...int) api.Sieve {
	t.Helper()
	x, e := sieve.Of(l, s.bits, s.hashes, s.salt)
	if e != api.OK {
		t.Fatalf("Of(%v, %v) tells %d", l, s, e)
	}
	return x
}

// P9.1

func TestNewHasNoBits(t *testing.T) {
	for _, s := range shapes() {
		if x := made(t, s); !same(x, setOf(s)) || sieve.Check(x) != api.OK {
			t.Errorf("New(%v) is %v", s, x)
		}
	}
	for bits := 8; bits <= 8192; bits += 8 {
		if x := made(t, shape{bits, 3, 0}); len(x.B) != bits/8 || sieve.Check(x) != api.OK {
			t.Errorf("New of %d bits is %v", bits, x)
		}
	}
}

func TestNewOfWhatMayNotBe(t *testing.T) {
	for _, s := range noShapes() {
		if x, e := sieve.New(s.bits, s.hashes, s.salt); !same(x, api.Sieve{}) || e != api.ErrArg {
			t.Errorf("New(%v) is %v, %d", s, x, e)
		}
	}
}

func TestCheck(t *testing.T) {
	for _, s := range shapes() {
		for _, x := range []api.Sieve{setOf(s), full(s), holding(s, 1, 2, 3)} {
			if e := sieve.Check(x); e != api.OK {
				t.Errorf("Check(%v) is %d", x, e)
			}
		}
	}
	for hashes := 1; hashes <= 8; hashes++ {
		if e := sieve.Check(api.Sieve{Bits: 8, Hashes: hashes, B: []byte{0}}); e != api.OK {
			t.Errorf("Check of %d hashes is %d", hashes, e)
		}
	}
	for _, x := range wrong() {
		if e := sieve.Check(x); e != api.ErrArg {
			t.Errorf("Check(%v) is %d", x, e)
		}
	}
}

// P9.2

func TestPutSetsTheNumbersPlaces(t *testing.T) {
	for _, s := range shapes() {
		for _, n := range numbers() {
			if x := put(t, made(t, s), n); !same(x, setOf(s, placesOf(s, n)...)) {
				t.Errorf("Put of %d into %v is %v", n, s, x)
			}
			if x := put(t, full(s), n); !same(x, full(s)) {
				t.Errorf("Put of %d into a full %v is %v", n, s, x)
			}
			for at := range min(s.bits, 16) {
				if x := put(t, setOf(s, at), n); !same(x, setOf(s, append(placesOf(s, n), at)...)) {
					t.Errorf("Put of %d into %v, whose bit %d is set, is %v", n, s, at, x)
				}
			}
		}
	}
}

// Numbers that were worked out apart from the program.
func TestPlacesThatAreKnown(t *testing.T) {
	known := []struct {
		s      shape
		n      int
		places []int
	}{
		{shape{8, 1, 0}, 0, []int{3}},
		{shape{8, 8, 0}, 0, []int{1, 2, 3, 6}},
		{shape{64, 3, 0}, 1, []int{51, 1, 61}},
		{shape{64, 3, 16}, 1, []int{22, 59, 26}},
		{shape{8192, 8, mostTime}, mostTime, []int{5739, 2509, 4159, 2632, 5017, 1997, 745, 3551}},
		{shape{8184, 8, 12345678901}, 987654321, []int{7255, 1150, 3395, 7286, 104, 4559, 1261, 5661}},
		{shape{16, 2, 258}, 66051, []int{8, 15}},
	}
	for _, k := range known {
		if x := put(t, made(t, k.s), k.n); !same(x, setOf(k.s, k.places...)) {
			t.Errorf("Put of %d into %v is %v", k.n, k.s, x)
		}
	}
	if x := of(t, shape{24, 3, 0}, 1, 2, 3); !bytes.Equal(x.B, []byte{102, 36, 10}) {
		t.Errorf("Of 1, 2, 3 is %v", x.B)
	}
	if x := of(t, shape{40, 2, mostTime}, 5, mostTime, 0, 77); !bytes.Equal(x.B, []byte{73, 0, 96, 0, 24}) {
		t.Errorf("Of 5, MaxTime, 0, 77 is %v", x.B)
	}
}

func TestPutOfWhatMayNotBe(t *testing.T) {
	for _, x := range wrong() {
		for _, n := range []int{-1, 0, 5, mostTime, mostTime + 1} {
			if y, e := sieve.Put(x, n); !same(y, api.Sieve{}) || e != api.ErrArg {
				t.Errorf("Put(%v, %d) is %v, %d", x, n, y, e)
			}
		}
	}
	for _, s := range shapes() {
		for _, n := range noNumbers() {
			for _, x := range []api.Sieve{made(t, s), full(s)} {
				if y, e := sieve.Put(x, n); !same(y, api.Sieve{}) || e != api.ErrArg {
					t.Errorf("Put(%v, %d) is %v, %d", x, n, y, e)
				}
			}
		}
	}
}

func TestOfPutsAll(t *testing.T) {
	lists := [][]int{nil, {}, {0}, {5}, {5, 5}, {3, 5}, {5, 3}, {mostTime, 0, mostTime}, numbers(), manyNumbers(300)}
	for _, s := range shapes() {
		for _, l := range lists {
			if x := of(t, s, l...); !same(x, holding(s, l...)) || !same(x, put(t, made(t, s), l...)) {
				t.Errorf("Of(%v, %v) is %v", l, s, x)
			}
		}
	}
}

func TestOfWhatMayNotBe(t *testing.T) {
	for _, s := range noShapes() {
		for _, l := range [][]int{nil, {0}, {5, -1}} {
			if x, e := sieve.Of(l, s.bits, s.hashes, s.salt); !same(x, api.Sieve{}) || e != api.ErrArg {
				t.Errorf("Of(%v, %v) is %v, %d", l, s, x, e)
			}
		}
	}
	for _, n := range noNumbers() {
		for _, l := range [][]int{{n}, {0, n}, {n, 0}, {1, 2, n, 3}, {n, n}} {
			if x, e := sieve.Of(l, 64, 3, 0); !same(x, api.Sieve{}) || e != api.ErrArg {
				t.Errorf("Of(%v) is %v, %d", l, x, e)
			}
		}
	}
}

// P9.3

func TestHasAsksForAllPlaces(t *testing.T) {
	for _, s := range shapes() {
		for _, n := range numbers() {
			places := placesOf(s, n)
			if !sieve.Has(setOf(s, places...), n) || !sieve.Has(full(s), n) || sieve.Has(made(t, s), n) {
				t.Errorf("Has of %d is wrong in %v", n, s)
			}
			for _, at := range places {
				lacking := full(s)
				lacking.B[at/8] &^= 1 << (at % 8)
				if sieve.Has(lacking, n) {
					t.Errorf("Has of %d is true in %v, though its bit %d is not set", n, s, at)
				}
			}
			others := full(s)
			for at := range s.bits {
				if !slices.Contains(places, at) {
					others.B[at/8] &^= 1 << (at % 8)
				}
			}
			if !sieve.Has(others, n) {
				t.Errorf("Has of %d is false in %v, though its bits are set", n, s)
			}
		}
	}
}

func TestHasOfWhatMayNotBe(t *testing.T) {
	for _, x := range wrong() {
		for _, n := range numbers() {
			if sieve.Has(x, n) {
				t.Errorf("Has(%v, %d) is true", x, n)
			}
		}
		if l := sieve.Some(x, numbers()); len(l) != 0 {
			t.Errorf("Some(%v) are %v", x, l)
		}
	}
	for _, s := range shapes() {
		for _, n := range noNumbers() {
			if sieve.Has(full(s), n) {
				t.Errorf("Has(%v, %d) is true", full(s), n)
			}
		}
	}
}

func TestSomeTellsWhatItHas(t *testing.T) {
	if l := sieve.Some(full(shape{8, 3, 0}), []int{5, -1, 3, mostTime + 1, 5, 0, mostTime}); !slices.Equal(l, []int{5, 3, 5, 0, mostTime}) {
		t.Errorf("of a full sieve Some are %v", l)
	}
	if l := sieve.Some(made(t, shape{8, 3, 0}), numbers()); len(l) != 0 {
		t.Errorf("of a new sieve Some are %v", l)
	}
	if l := sieve.Some(full(shape{8, 3, 0}), nil); len(l) != 0 {
		t.Errorf("of no numbers Some are %v", l)
	}
	// Of these numbers the sieve tells some that it was not made of.
	x := of(t, shape{16, 3, 0}, 3, 5)
	var asked []int
	for n := range 60 {
		asked = append(asked, n)
	}
	if l, want := sieve.Some(x, asked), []int{2, 3, 4, 5, 9, 37, 48}; !bytes.Equal(x.B, []byte{38, 70}) || !slices.Equal(l, want) {
		t.Errorf("of the sieve %v of 3 and 5 Some are %v, not %v", x, l, want)
	}
	for _, s := range shapes() {
		x, l := of(t, s, manyNumbers(20)...), append(manyNumbers(60), numbers()...)
		var want []int
		for _, n := range l {
			if sieve.Has(x, n) {
				want = append(want, n)
			}
		}
		if some := sieve.Some(x, l); !slices.Equal(some, want) {
			t.Errorf("of %v Some are %v, not %v", s, some, want)
		}
	}
}

func TestExamples(t *testing.T) {
	for _, n := range append(numbers(), manyNumbers(100)...) {
		if sieve.Has(made(t, shape{64, 3, 0}), n) {
			t.Errorf("a new sieve has %d", n)
		}
		if !sieve.Has(api.Sieve{Bits: 8, Hashes: 3, B: []byte{255}}, n) {
			t.Errorf("a sieve of 8 bits, which are all set, has not %d", n)
		}
	}
}

// P9.4

func TestWhatIsPutIsTold(t *testing.T) {
	for _, s := range shapes() {
		x := made(t, s)
		var in []int
		for _, n := range append(manyNumbers(20), numbers()...) {
			before := sieve.Some(x, manyNumbers(100))
			x, in = put(t, x, n), append(in, n)
			if !slices.Equal(sieve.Some(x, in), in) {
				t.Errorf("in %v not all of %v are told", s, in)
			}
			if after := sieve.Some(x, manyNumbers(100)); !slices.Equal(sieve.Some(x, before), before) || len(after) < len(before) {
				t.Errorf("with %d in %v something is told no longer", n, s)
			}
		}
	}
}

func TestNeitherOrderNorHowOftenMatters(t *testing.T) {
	l := append(manyNumbers(30), numbers()...)
	for _, s := range shapes() {
		x := of(t, s, l...)
		other := slices.Clone(l)
		slices.Reverse(other)
		twice := append(slices.Clone(other), l...)
		slices.Sort(other)
		if !same(x, of(t, s, other...)) || !same(x, of(t, s, twice...)) || !same(x, put(t, x, l...)) {
			t.Errorf("the sieve %v of the same numbers is another one", s)
		}
	}
}

// R2, R6

func TestNothingIsChangedOrShared(t *testing.T) {
	s := shape{64, 3, 5}
	x := of(t, s, 1, 2)
	was := holding(s, 1, 2)
	l := []int{1, 7, 2, 9}
	y := put(t, x, 3)
	some := sieve.Some(x, l)
	if !same(x, was) || !slices.Equal(l, []int{1, 7, 2, 9}) {
		t.Error("what was handed in is changed")
	}
	clear(x.B)
	if !same(y, holding(s, 1, 2, 3)) {
		t.Error("what was told changes with what was handed in")
	}
	clear(some)
	if !slices.Equal(l, []int{1, 7, 2, 9}) {
		t.Error("what was handed in changes with what was told")
	}
	spare := holding(s, 1)
	spare.B = append(spare.B, make([]byte, 8)...)[:8]
	z := put(t, spare, 4)
	clear(z.B)
	if !same(spare, holding(s, 1)) || !same(put(t, spare, 4), holding(s, 1, 4)) {
		t.Error("a sieve changes with what was told of it")
	}
	if a, b := made(t, s), made(t, s); &a.B[0] == &b.B[0] {
		t.Error("two new sieves share their bytes")
	}
}
