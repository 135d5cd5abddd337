package cascade_test

import (
	"bytes"
	"math"
	"slices"
	"testing"

	"greatseal/api"
	"greatseal/cascade"
	"greatseal/der"
	"greatseal/sieve"
)

const (
	lastDay    = 1<<36 - 1
	mostTime   = api.MaxTime
	mostLevels = 16
)

func days() []int { return []int{0, 1, 2, 7, 258, 1 << 20, 1 << 35, lastDay - 1, lastDay} }

func noDays() []int {
	return []int{math.MinInt, -lastDay, -1, lastDay + 1, lastDay + 2, 1 << 40, 1 << 60, 1<<60 + 1, math.MaxInt}
}

// rising are so many numbers, from one on, so far from each other.
func rising(many, from, step int) []int {
	l := make([]int, many)
	for k := range l {
		l[k] = from + k*step
	}
	return l
}

// sides are numbers that are in, and numbers that are not: both rise, none is on both sides.
type sides struct{ in, out []int }

func allSides() []sides {
	return []sides{
		{}, {in: []int{}, out: []int{}}, {in: []int{5}}, {out: []int{5}}, {out: rising(256, 0, 1)}, {in: rising(256, 0, 1)},
		{[]int{1}, []int{2, 3}}, {[]int{3, 5}, []int{1, 2, 4, 6}}, {[]int{0, mostTime}, []int{1, mostTime - 1}}, {[]int{1}, []int{0, mostTime}},
		{rising(20, 0, 3), rising(40, 1, 3)}, {rising(256, 0, 2), rising(256, 1, 2)}, {rising(256, 1, 1<<32), rising(256, 1<<39, 1<<30)},
		{rising(3, 7, 1), rising(256, 1000, 7)}, {rising(256, mostTime-255, 1), rising(256, 0, 1)},
	}
}

// noNumbers are lists that may not be.
func noNumbers() [][]int {
	return [][]int{
		{-1}, {mostTime + 1}, {math.MinInt}, {math.MaxInt}, {1, 1}, {0, 0}, {2, 1}, {1, 2, 2}, {1, 3, 2}, {2, 1, 3}, {1, 2, 3, 0}, {-1, 0, 1}, {0, mostTime, mostTime + 1},
		{0, math.MaxInt}, {math.MinInt, 0}, rising(257, 0, 1), rising(300, 0, 1), append(rising(255, 1, 1), 0), append(rising(255, 0, 1), 254), rising(256, -1, 1), rising(256, mostTime-254, 1),
	}
}

func salt(day, number int) int { return 16*day + number }

// level is one of that number, with these bytes.
func level(day, number int, b ...byte) api.Sieve {
	return api.Sieve{Bits: 8 * len(b), Hashes: 3, Salt: salt(day, number), B: b}
}

// built is a cascade whose levels have these bytes, whatever they tell.
func built(day int, all ...[]byte) api.Cascade {
	c := api.Cascade{Day: day}
	for number, b := range all {
		c.Levels = append(c.Levels, level(day, number, b...))
	}
	return c
}

// steps is a cascade of so many levels of one byte: those ahead of one number tell whatever is right, that one tells nothing, those behind it all again.
func steps(day, many, nothing int) api.Cascade {
	all := make([][]byte, many)
	for number := range all {
		all[number] = []byte{255}
		if number == nothing {
			all[number] = []byte{0}
		}
	}
	return built(day, all...)
}

// text is bytes that are all unlike their neighbours.
func text(length int) []byte {
	b := make([]byte, length)
	for k := range b {
		b[k] = byte(k*37 + length)
	}
	return b
}

// great is a cascade of so many levels, each of so many bytes, that are unlike another one's of another start.
func great(day, many, size, start int) api.Cascade {
	all := make([][]byte, many)
	for number := range all {
		all[number] = text(size)
		all[number][0] = byte(start + number)
	}
	return built(day, all...)
}

// madeOf is what the chapter says of Make, of what may be.
func madeOf(t *testing.T, s sides, day int) api.Cascade {
	t.Helper()
	c := api.Cascade{Day: day}
	of, others := s.in, s.out
	for {
		bits := 8 * len(of)
		if bits == 0 {
			bits = 8
		}
		x, e := sieve.Of(of, bits, 3, salt(day, len(c.Levels)))
		if e != api.OK {
			t.Fatalf("Of(%v) tells %d", of, e)
		}
		c.Levels = append(c.Levels, x)
		var wrongly []int
		for _, n := range others {
			if sieve.Has(x, n) {
				wrongly = append(wrongly, n)
			}
		}
		if len(wrongly) == 0 {
			return c
		}
		of, others = wrongly, of
	}
}

func same(a, b api.Cascade) bool {
	if a.Day != b.Day || len(a.Levels) != len(b.Levels) {
		return false
	}
	for k, x := range a.Levels {
		y := b.Levels[k]
		if x.Bits != y.Bits || x.Hashes != y.Hashes || x.Salt != y.Salt || !bytes.Equal(x.B, y.B) {
			return false
		}
	}
	return true
}

func copied(c api.Cascade) api.Cascade {
	c.Levels = slices.Clone(c.Levels)
	for k := range c.Levels {
		c.Levels[k].B = bytes.Clone(c.Levels[k].B)
	}
	return c
}

// changed is a cascade of its own, one level of which is otherwise.
func changed(c api.Cascade, number int, change func(x *api.Sieve)) api.Cascade {
	c = copied(c)
	change(&c.Levels[number])
	return c
}

// pool are cascades that may be, of various days and shapes.
func pool(t *testing.T) []api.Cascade {
	l := []api.Cascade{{}, {Day: lastDay}, built(3, []byte{1}), built(3, []byte{1}, []byte{2, 3}), built(3, []byte{1}, []byte{2, 4}, text(127)), built(4, []byte{0}, []byte{2, 3}, text(128)), built(4, text(1024)), built(9, text(255), text(256), []byte{1})}
	for k, s := range allSides() {
		l = append(l, madeOf(t, s, days()[k%len(days())]))
	}
	return append(l, steps(0, 16, 16), steps(lastDay, 16, 3), steps(7, 2, 0), great(5, 7, 1024, 0), great(5, 16, 400, 3))
}

// mayNot are cascades that may not be, because of something that is wrong, but for the number of levels.
func mayNot() []api.Cascade {
	var l []api.Cascade
	for _, day := range noDays() {
		l = append(l, api.Cascade{Day: day}, built(day, []byte{255}), steps(day, 16, 16))
	}
	for _, whole := range []api.Cascade{steps(0, 1, 1), steps(7, 16, 16), steps(lastDay, 5, 5)} {
		for number := range whole.Levels {
			changes := []func(x *api.Sieve){
				func(x *api.Sieve) { x.Hashes = 2 }, func(x *api.Sieve) { x.Hashes = 4 }, func(x *api.Sieve) { x.Hashes = 0 }, func(x *api.Sieve) { x.Hashes = 8 },
				func(x *api.Sieve) { x.Salt++ }, func(x *api.Sieve) { x.Salt-- }, func(x *api.Sieve) { x.Salt += 16 }, func(x *api.Sieve) { x.Salt -= 16 }, func(x *api.Sieve) { x.Salt = -1 },
				func(x *api.Sieve) { x.Bits = 16 }, func(x *api.Sieve) { x.Bits = 0 }, func(x *api.Sieve) { x.Bits = 7 }, func(x *api.Sieve) { x.B = nil }, func(x *api.Sieve) { x.B = []byte{255, 255} },
				func(x *api.Sieve) { x.Bits, x.B = 0, nil }, func(x *api.Sieve) { x.Bits, x.B = 8200, text(1025) }, func(x *api.Sieve) { *x = api.Sieve{} },
			}
			for _, change := range changes {
				l = append(l, changed(whole, number, change))
			}
		}
	}
	return l
}

// tooMany are cascades of more than 16 levels, right otherwise, or not.
func tooMany() []api.Cascade {
	return []api.Cascade{steps(0, 17, 17), steps(lastDay, 17, 0), steps(7, 18, 18), steps(7, 300, 2), steps(-1, 17, 17), steps(lastDay+1, 17, 17), {Day: 5, Levels: make([]api.Sieve, 17)}}
}

func made(t *testing.T, s sides, day int) api.Cascade {
	t.Helper()
	c, e := cascade.Make(s.in, s.out, day)
	if e != api.OK {
		t.Fatalf("Make(%v, %d) tells %d", s, day, e)
	}
	return c
}

func notMade(t *testing.T, want api.Errno, in, out []int, day int) {
	t.Helper()
	if c, e := cascade.Make(in, out, day); !same(c, api.Cascade{}) || e != want {
		t.Errorf("Make(%v, %v, %d) is %v, %d, not %d", in, out, day, c, e, want)
	}
}

func asBytes(t *testing.T, items ...api.Item) []byte {
	t.Helper()
	b, e := der.Put(der.Seq(items...))
	if e != api.OK {
		t.Fatalf("Put(%v) tells %d", items, e)
	}
	return b
}

func put(t *testing.T, c api.Cascade) []byte {
	t.Helper()
	b, e := cascade.Put(c)
	if e != api.OK {
		t.Fatalf("Put(%v) tells %d", c, e)
	}
	return b
}

func got(t *testing.T, what string, want api.Cascade, b []byte) {
	t.Helper()
	if c, e := cascade.Get(b); !same(c, want) || e != api.OK {
		t.Errorf("%s: Get(%v) is %v, %d, not %v", what, b, c, e, want)
	}
}

func notGot(t *testing.T, what string, want api.Errno, b []byte) {
	t.Helper()
	if c, e := cascade.Get(b); !same(c, api.Cascade{}) || e != want {
		t.Errorf("%s: Get(%v) is %v, %d, not %d", what, b, c, e, want)
	}
}

func delta(t *testing.T, a, b api.Cascade) []byte {
	t.Helper()
	d, e := cascade.Delta(a, b)
	if e != api.OK {
		t.Fatalf("Delta(%v, %v) tells %d", a, b, e)
	}
	return d
}

func notDelta(t *testing.T, what string, want api.Errno, a, b api.Cascade) {
	t.Helper()
	if d, e := cascade.Delta(a, b); len(d) != 0 || e != want {
		t.Errorf("%s: Delta(%v, %v) is %v, %d, not %d", what, a, b, d, e, want)
	}
}

func applied(t *testing.T, what string, want, a api.Cascade, d []byte) {
	t.Helper()
	if c, e := cascade.Apply(a, d); !same(c, want) || e != api.OK {
		t.Errorf("%s: Apply(%v, %v) is %v, %d, not %v", what, a, d, c, e, want)
	}
}

func notApplied(t *testing.T, what string, want api.Errno, a api.Cascade, d []byte) {
	t.Helper()
	if c, e := cascade.Apply(a, d); !same(c, api.Cascade{}) || e != want {
		t.Errorf("%s: Apply(%v, %v) is %v, %d, not %d", what, a, d, c, e, want)
	}
}

// P10.1

func TestCheck(t *testing.T) {
	right := pool(t)
	for _, day := range days() {
		for many := range mostLevels + 1 {
			right = append(right, steps(day, many, many/2))
		}
	}
	for _, c := range right {
		if e := cascade.Check(c); e != api.OK {
			t.Errorf("Check(%v) is %d", c, e)
		}
	}
	for _, c := range mayNot() {
		if e := cascade.Check(c); e != api.ErrArg {
			t.Errorf("Check(%v) is %d", c, e)
		}
	}
	for _, c := range tooMany() {
		if e := cascade.Check(c); e != api.ErrBound {
			t.Errorf("Check(%v) is %d", c, e)
		}
	}
}

func TestSame(t *testing.T) {
	l := append(append(pool(t), mayNot()[:40]...), tooMany()...)
	for _, a := range l {
		for _, b := range l {
			if cascade.Same(a, b) != same(a, b) {
				t.Errorf("Same(%v, %v) is %v", a, b, !same(a, b))
			}
		}
		if !cascade.Same(a, copied(a)) {
			t.Errorf("Same(%v) is false of itself", a)
		}
		for number := range min(len(a.Levels), mostLevels) {
			changes := []func(x *api.Sieve){
				func(x *api.Sieve) { x.Bits++ }, func(x *api.Sieve) { x.Hashes++ }, func(x *api.Sieve) { x.Salt++ }, func(x *api.Sieve) { x.B = append(x.B, 0) },
			}
			if size := len(a.Levels[number].B); size > 0 {
				changes = append(changes, func(x *api.Sieve) { x.B[size-1] ^= 128 }, func(x *api.Sieve) { x.B[0] ^= 1 }, func(x *api.Sieve) { x.B = x.B[:size-1] })
			}
			for _, change := range changes {
				if b := changed(a, number, change); cascade.Same(a, b) || cascade.Same(b, a) {
					t.Errorf("Same(%v, %v) is true", a, b)
				}
			}
		}
	}
	none, empty := api.Cascade{Day: 1, Levels: []api.Sieve{{}}}, api.Cascade{Day: 1, Levels: []api.Sieve{{B: []byte{}}}}
	if !cascade.Same(none, empty) || !cascade.Same(api.Cascade{}, api.Cascade{Levels: []api.Sieve{}}) {
		t.Error("nil and empty lists are not the same")
	}
}

// P10.2

func TestMakeGoesOnWhileSomebodyIsToldWrongly(t *testing.T) {
	seen := map[int]bool{}
	for _, s := range allSides() {
		for _, day := range append(days(), rising(12, 0, 1)...) {
			c := made(t, s, day)
			if !same(c, madeOf(t, s, day)) || cascade.Check(c) != api.OK {
				t.Errorf("Make(%v, %d) is %v", s, day, c)
			}
			seen[len(c.Levels)] = true
		}
	}
	for many := 1; many <= 5; many++ {
		if !seen[many] {
			t.Errorf("no cascade of %d levels was made", many)
		}
	}
}

// Numbers that were worked out apart from the program.
func TestMakeOfWhatIsKnown(t *testing.T) {
	known := []struct {
		s   sides
		day int
		b   []byte
	}{
		{sides{[]int{1}, []int{2, 3}}, 0, []byte{48, 6, 2, 1, 0, 4, 1, 42}},
		{sides{[]int{3, 5}, []int{1, 2, 4, 6}}, 7, []byte{48, 10, 2, 1, 7, 4, 2, 74, 6, 4, 1, 144}},
		{sides{[]int{0, mostTime}, []int{1, mostTime - 1}}, lastDay, []byte{48, 11, 2, 5, 15, 255, 255, 255, 255, 4, 2, 9, 74}},
	}
	for _, k := range known {
		if b := put(t, made(t, k.s, k.day)); !bytes.Equal(b, k.b) {
			t.Errorf("Make(%v, %d) is %v, not %v", k.s, k.day, b, k.b)
		}
	}
	sizes := []struct {
		s     sides
		day   int
		sizes []int
	}{
		{sides{rising(20, 0, 3), rising(40, 1, 3)}, 6, []int{20}},
		{sides{rising(20, 0, 3), rising(40, 1, 3)}, 4, []int{20, 2, 1}},
		{sides{rising(256, 0, 2), rising(256, 1, 2)}, 0, []int{256, 12, 9}},
		{sides{rising(256, 0, 2), rising(256, 1, 2)}, 3, []int{256, 7, 21, 1, 1}},
		{sides{rising(256, 0, 2), rising(256, 1, 2)}, 5, []int{256, 5, 9, 1}},
	}
	for _, k := range sizes {
		var l []int
		for _, x := range made(t, k.s, k.day).Levels {
			l = append(l, len(x.B))
		}
		if !slices.Equal(l, k.sizes) {
			t.Errorf("Make(%v, %d) has levels of %v bytes, not %v", k.s, k.day, l, k.sizes)
		}
	}
}

func TestMakeOfEmptySides(t *testing.T) {
	for _, day := range days() {
		for _, out := range [][]int{nil, {}, {5}, rising(256, 0, 1)} {
			if c := made(t, sides{out: out}, day); !same(c, built(day, []byte{0})) {
				t.Errorf("Make of none in, on day %d, is %v", day, c)
			}
		}
		for _, in := range [][]int{{5}, rising(256, 0, 1)} {
			if c := made(t, sides{in: in}, day); len(c.Levels) != 1 || len(c.Levels[0].B) != len(in) {
				t.Errorf("Make of none out, on day %d, is %v", day, c)
			}
		}
	}
}

func TestMakeOfWhatMayNotBe(t *testing.T) {
	for _, l := range noNumbers() {
		notMade(t, api.ErrArg, l, nil, 0)
		notMade(t, api.ErrArg, nil, l, 0)
		notMade(t, api.ErrArg, l, []int{1, 2}, lastDay)
		notMade(t, api.ErrArg, []int{1, 2}, l, lastDay)
		// Of what may not be it is not asked whether it is on both sides.
		notMade(t, api.ErrArg, l, l, 0)
		notMade(t, api.ErrArg, l, l, -1)
	}
	for _, day := range noDays() {
		for _, s := range append(allSides(), sides{[]int{5}, []int{5}}) {
			notMade(t, api.ErrArg, s.in, s.out, day)
		}
	}
}

func TestMakeOfNumbersOnBothSides(t *testing.T) {
	both := []sides{
		{[]int{5}, []int{5}}, {[]int{0}, []int{0, 1}}, {[]int{0, 1}, []int{1}}, {[]int{1, 2, 3}, []int{0, 2, 4}}, {[]int{mostTime}, []int{0, mostTime}},
		{rising(256, 0, 1), rising(256, 0, 1)}, {rising(256, 0, 1), rising(256, 255, 1)}, {rising(256, 1000, 1), rising(256, 745, 1)},
	}
	for _, s := range both {
		notMade(t, api.ErrMany, s.in, s.out, 0)
		notMade(t, api.ErrMany, s.out, s.in, lastDay)
	}
}

// P10.3

func TestHasTellsByTheFirstLevelThatDoesNot(t *testing.T) {
	for _, day := range days() {
		for many := range mostLevels + 1 {
			for nothing := range many + 1 {
				c := steps(day, many, nothing)
				for _, n := range []int{0, 1, 987654321, mostTime} {
					if told := cascade.Has(c, n); told != (nothing%2 == 1) {
						t.Errorf("Has(%v, %d) is %v", c, n, told)
					}
				}
				for _, n := range []int{math.MinInt, -1, mostTime + 1, math.MaxInt} {
					if cascade.Has(c, n) {
						t.Errorf("Has(%v, %d) is true", c, n)
					}
				}
			}
		}
	}
	for _, c := range pool(t) {
		for n := range 300 {
			want, first := len(c.Levels)%2 == 1, slices.IndexFunc(c.Levels, func(x api.Sieve) bool { return !sieve.Has(x, n) })
			if first >= 0 {
				want = first%2 == 1
			}
			if cascade.Has(c, n) != want {
				t.Errorf("Has(%v, %d) is %v", c, n, !want)
			}
		}
	}
}

func TestHasOfWhatMayNotBe(t *testing.T) {
	for _, c := range append(mayNot(), tooMany()...) {
		for n := range 20 {
			if cascade.Has(c, n) {
				t.Errorf("Has(%v, %d) is true", c, n)
			}
		}
	}
}

func TestExamples(t *testing.T) {
	for _, day := range days() {
		c := made(t, sides{[]int{1}, []int{2, 3}}, day)
		if !cascade.Has(c, 1) || cascade.Has(c, 2) || cascade.Has(c, 3) {
			t.Errorf("of in 1, and out 2 and 3, on day %d, Has is wrong", day)
		}
		none := made(t, sides{out: rising(100, 0, 11)}, day)
		for _, n := range rising(100, 0, 11) {
			if cascade.Has(none, n) {
				t.Errorf("of none in, on day %d, Has of %d is true", day, n)
			}
		}
		three := made(t, sides{[]int{3, 5}, []int{1, 2, 4, 6}}, day)
		for n := 1; n <= 6; n++ {
			if cascade.Has(three, n) != (n == 3 || n == 5) {
				t.Errorf("of the revoked 3 and 5 of 1 to 6, on day %d, Has of %d is wrong", day, n)
			}
		}
	}
}

// P10.4

func TestPutIsTheDayAndTheLevels(t *testing.T) {
	for _, c := range pool(t) {
		items := []api.Item{der.Int(c.Day)}
		for _, x := range c.Levels {
			items = append(items, der.Oct(x.B))
		}
		if b := put(t, c); !bytes.Equal(b, asBytes(t, items...)) {
			t.Errorf("Put(%v) is %v", c, b)
		}
	}
	if b := put(t, built(300, []byte{1, 2}, []byte{3})); !bytes.Equal(b, []byte{48, 11, 2, 2, 1, 44, 4, 2, 1, 2, 4, 1, 3}) {
		t.Errorf("Put is %v", b)
	}
}

func TestPutOfWhatMayNotBe(t *testing.T) {
	for _, c := range mayNot() {
		if b, e := cascade.Put(c); len(b) != 0 || e != api.ErrArg {
			t.Errorf("Put(%v) is %v, %d", c, b, e)
		}
	}
	for _, c := range tooMany() {
		if b, e := cascade.Put(c); len(b) != 0 || e != api.ErrBound {
			t.Errorf("Put(%v) is %v, %d", c, b, e)
		}
	}
	// Eight levels of 1020 bytes are 8192 bytes with all that stands ahead of them; a byte more is too many.
	most := great(0, 8, 1019, 0)
	most.Levels[0] = level(0, 0, text(1020)...)
	if b := put(t, most); len(b) != 8192 {
		t.Errorf("Put of the most bytes has %d", len(b))
	}
	for _, c := range []api.Cascade{changed(most, 1, func(x *api.Sieve) { x.Bits, x.B = 8160, text(1020) }), great(0, 8, 1024, 0), great(0, 16, 1024, 0), great(0, 16, 509, 0)} {
		if b, e := cascade.Put(c); len(b) != 0 || e != api.ErrBound {
			t.Errorf("Put of too many bytes is %d bytes, %d", len(b), e)
		}
	}
}

func TestGetReadsWhatIsPut(t *testing.T) {
	for _, c := range pool(t) {
		got(t, "put", c, put(t, c))
	}
	for _, day := range days() {
		got(t, "no levels", api.Cascade{Day: day}, asBytes(t, der.Int(day)))
		got(t, "a level", built(day, []byte{7}), asBytes(t, der.Int(day), der.Oct([]byte{7})))
	}
}

func TestGetOfOtherItems(t *testing.T) {
	day, one := der.Int(5), der.Oct([]byte{1})
	for _, x := range []api.Item{day, one, der.Bool(true), der.Text("a")} {
		b, _ := der.Put(x)
		notGot(t, "no sequence", api.ErrType, b)
		notGot(t, "no sequence, and more behind it", api.ErrForm, append(b, 0))
	}
	notGot(t, "nothing in it", api.ErrForm, []byte{48, 0})
	notGot(t, "nothing in it, and more behind it", api.ErrForm, []byte{48, 0, 0})
	for _, x := range []api.Item{one, der.Bool(true), der.Text("a"), der.Seq(day)} {
		notGot(t, "no day", api.ErrType, asBytes(t, x))
		notGot(t, "no day", api.ErrType, asBytes(t, x, one))
	}
	for _, x := range []api.Item{day, der.Bool(true), der.Bool(false), der.Text("a"), der.Seq(one)} {
		notGot(t, "no level", api.ErrType, asBytes(t, day, x))
		notGot(t, "no level", api.ErrType, asBytes(t, day, one, x))
		notGot(t, "no level", api.ErrType, asBytes(t, day, x, one))
		// What the items are is asked ahead of whether a cascade of them may be.
		notGot(t, "no level, and no day", api.ErrType, asBytes(t, der.Int(-1), x))
		notGot(t, "no level, and an empty one", api.ErrType, asBytes(t, day, der.Oct(nil), x))
	}
}

func TestGetOfWhatMayNotBe(t *testing.T) {
	one := der.Oct([]byte{1})
	for _, day := range noDays() {
		notGot(t, "no day", api.ErrForm, asBytes(t, der.Int(day)))
		notGot(t, "no day", api.ErrForm, asBytes(t, der.Int(day), one))
	}
	for _, size := range []int{0, 1025, 2000} {
		notGot(t, "no size", api.ErrForm, asBytes(t, der.Int(5), der.Oct(text(size))))
		notGot(t, "no size", api.ErrForm, asBytes(t, der.Int(5), one, der.Oct(text(size)), one))
	}
	for _, size := range []int{1, 2, 127, 128, 255, 256, 1023, 1024} {
		got(t, "a size", built(5, text(size)), asBytes(t, der.Int(5), der.Oct(text(size))))
	}
	for many := range 20 {
		items := []api.Item{der.Int(5)}
		for range many {
			items = append(items, der.Oct([]byte{255}))
		}
		if many <= mostLevels {
			got(t, "levels", steps(5, many, many), asBytes(t, items...))
		} else {
			notGot(t, "too many levels", api.ErrForm, asBytes(t, items...))
		}
	}
}

func TestGetOfOtherBytes(t *testing.T) {
	notGot(t, "no bytes", api.ErrShort, nil)
	notGot(t, "no tag", api.ErrForm, []byte{3, 0})
	notGot(t, "a length that is no length", api.ErrForm, []byte{48, 128})
	notGot(t, "a length that is longer than it may be", api.ErrForm, []byte{48, 129, 3, 2, 1, 5})
	notGot(t, "an int that is longer than it may be", api.ErrForm, []byte{48, 4, 2, 2, 0, 5})
	for _, c := range pool(t) {
		b := put(t, c)
		for size := range min(len(b), 400) {
			notGot(t, "cut off", api.ErrShort, b[:size])
		}
		for _, behind := range [][]byte{{0}, {48}, b} {
			notGot(t, "something behind", api.ErrForm, append(bytes.Clone(b), behind...))
		}
		for at := range min(len(b), 60) {
			for _, by := range []byte{1, 2, 4, 8, 16, 32, 64, 128, 255} {
				other := bytes.Clone(b)
				other[at] ^= by
				x, e := cascade.Get(other)
				if e != api.OK {
					notGot(t, "altered", e, other)
				} else if !bytes.Equal(put(t, x), other) {
					t.Errorf("Get(%v) is %v, which is put otherwise", other, x)
				}
			}
		}
	}
}

// P10.5

// deltaOf is what the chapter says of Delta, of what may be.
func deltaOf(t *testing.T, a, b api.Cascade) []byte {
	t.Helper()
	items := []api.Item{der.Int(a.Day), der.Int(b.Day)}
	for number, x := range b.Levels {
		if number < len(a.Levels) && bytes.Equal(x.B, a.Levels[number].B) {
			items = append(items, der.Bool(true))
		} else {
			items = append(items, der.Oct(x.B))
		}
	}
	return asBytes(t, items...)
}

func TestDeltaIsWhatIsUnlike(t *testing.T) {
	all := pool(t)
	for _, a := range all {
		for _, b := range all {
			if d := delta(t, a, b); !bytes.Equal(d, deltaOf(t, a, b)) {
				t.Errorf("Delta(%v, %v) is %v", a, b, d)
			}
		}
	}
	a, b := built(1, []byte{1}, []byte{2}, []byte{3}), built(300, []byte{1}, []byte{9}, []byte{3}, []byte{4})
	if d := delta(t, a, b); !bytes.Equal(d, []byte{48, 19, 2, 1, 1, 2, 2, 1, 44, 1, 1, 255, 4, 1, 9, 1, 1, 255, 4, 1, 4}) {
		t.Errorf("Delta is %v", d)
	}
	if d := delta(t, b, a); !bytes.Equal(d, []byte{48, 16, 2, 2, 1, 44, 2, 1, 1, 1, 1, 255, 4, 1, 2, 1, 1, 255}) {
		t.Errorf("Delta is %v", d)
	}
	if d := delta(t, a, a); !bytes.Equal(d, []byte{48, 15, 2, 1, 1, 2, 1, 1, 1, 1, 255, 1, 1, 255, 1, 1, 255}) {
		t.Errorf("Delta is %v", d)
	}
}

func TestDeltaOfWhatMayNotBe(t *testing.T) {
	right := built(5, []byte{1})
	for _, wrong := range mayNot() {
		notDelta(t, "the first may not be", api.ErrArg, wrong, right)
		notDelta(t, "the second may not be", api.ErrArg, right, wrong)
		for _, many := range tooMany()[:2] {
			notDelta(t, "the first may not be, the second has too many levels", api.ErrArg, wrong, many)
			notDelta(t, "the first has too many levels, the second may not be", api.ErrBound, many, wrong)
		}
	}
	for _, many := range tooMany() {
		notDelta(t, "the first has too many levels", api.ErrBound, many, right)
		notDelta(t, "the second has too many levels", api.ErrBound, right, many)
	}
	// What is the same is told in few bytes, what is unlike may be too many.
	a, b := great(5, 16, 1024, 0), great(6, 16, 1024, 100)
	notDelta(t, "too many bytes", api.ErrBound, a, b)
	applied(t, "few bytes", great(6, 16, 1024, 0), a, delta(t, a, great(6, 16, 1024, 0)))
}

func TestApplyLeadsOn(t *testing.T) {
	all := pool(t)
	for _, a := range all {
		for _, b := range all {
			applied(t, "led on", b, a, delta(t, a, b))
		}
	}
}

// A delta that is applied to another cascade of the same day goes by that one's levels.
func TestApplyToTheWrongOne(t *testing.T) {
	all := pool(t)
	for _, a := range all {
		for _, b := range all {
			d := delta(t, a, b)
			for _, c := range all {
				if c.Day != a.Day {
					notApplied(t, "another day", api.ErrArg, c, d)
					continue
				}
				want, missing := copied(b), false
				for number := range b.Levels {
					if number < len(a.Levels) && bytes.Equal(a.Levels[number].B, b.Levels[number].B) {
						if number >= len(c.Levels) {
							missing = true
							break
						}
						want.Levels[number] = level(b.Day, number, c.Levels[number].B...)
					}
				}
				if missing {
					notApplied(t, "a level that is missing", api.ErrForm, c, d)
				} else {
					applied(t, "another one of that day", want, c, d)
				}
			}
		}
	}
}

func TestApplyToWhatMayNotBe(t *testing.T) {
	for _, c := range mayNot() {
		notApplied(t, "may not be", api.ErrArg, c, asBytes(t, der.Int(c.Day), der.Int(5)))
		notApplied(t, "may not be", api.ErrArg, c, nil)
	}
	for _, c := range tooMany() {
		notApplied(t, "too many levels", api.ErrBound, c, asBytes(t, der.Int(c.Day), der.Int(5)))
		notApplied(t, "too many levels", api.ErrBound, c, nil)
	}
}

func TestApplyOfOtherItems(t *testing.T) {
	a := built(5, []byte{1}, []byte{2})
	from, to, one, as := der.Int(5), der.Int(6), der.Oct([]byte{1}), der.Bool(true)
	for _, x := range []api.Item{from, one, as, der.Text("a")} {
		b, _ := der.Put(x)
		notApplied(t, "no sequence", api.ErrType, a, b)
		notApplied(t, "no sequence, and more behind it", api.ErrForm, a, append(b, 0))
	}
	for _, few := range [][]byte{{48, 0}, asBytes(t, from), asBytes(t, one), asBytes(t, der.Int(6))} {
		notApplied(t, "too few items", api.ErrForm, a, few)
	}
	for _, x := range []api.Item{one, as, der.Text("a"), der.Seq(from)} {
		notApplied(t, "no day", api.ErrType, a, asBytes(t, x, to))
		notApplied(t, "no day", api.ErrType, a, asBytes(t, from, x))
		// Both days are read ahead of the question whether the first one is right.
		notApplied(t, "another day, and no day", api.ErrType, a, asBytes(t, to, x))
		notApplied(t, "no day, and no level", api.ErrType, a, asBytes(t, from, x, der.Bool(false)))
	}
	for _, x := range []api.Item{from, der.Text("a"), der.Seq(one), der.Seq()} {
		notApplied(t, "no level", api.ErrType, a, asBytes(t, from, to, x))
		notApplied(t, "no level", api.ErrType, a, asBytes(t, from, to, as, x, one))
		notApplied(t, "another day, and no level", api.ErrArg, a, asBytes(t, to, to, x))
		notApplied(t, "no level, ahead of a false one", api.ErrType, a, asBytes(t, from, to, x, der.Bool(false)))
		notApplied(t, "no level, behind a false one", api.ErrForm, a, asBytes(t, from, to, der.Bool(false), x))
		notApplied(t, "no level, behind one that a has not", api.ErrForm, a, asBytes(t, from, to, as, as, as, x))
		notApplied(t, "no level, and no day", api.ErrType, a, asBytes(t, from, der.Int(-1), x))
	}
}

func TestApplyOfWhatMayNotBe(t *testing.T) {
	a := built(5, []byte{1}, []byte{2})
	from, to, one, as := der.Int(5), der.Int(6), der.Oct([]byte{9}), der.Bool(true)
	for _, day := range append(noDays(), 0, 4, 6, 5+1<<32) {
		notApplied(t, "from another day", api.ErrArg, a, asBytes(t, der.Int(day), to))
		notApplied(t, "from another day", api.ErrArg, a, asBytes(t, der.Int(day), to, der.Bool(false)))
	}
	for _, day := range noDays() {
		notApplied(t, "to no day", api.ErrForm, a, asBytes(t, from, der.Int(day)))
		notApplied(t, "to no day", api.ErrForm, a, asBytes(t, from, der.Int(day), as, one))
	}
	for _, day := range days() {
		applied(t, "to a day", built(day, []byte{1}, []byte{9}), a, asBytes(t, from, der.Int(day), as, one))
	}
	notApplied(t, "false", api.ErrForm, a, asBytes(t, from, to, der.Bool(false)))
	notApplied(t, "false", api.ErrForm, a, asBytes(t, from, to, as, der.Bool(false)))
	notApplied(t, "a level that a has not", api.ErrForm, a, asBytes(t, from, to, as, as, as))
	notApplied(t, "a level that a has not", api.ErrForm, a, asBytes(t, from, to, one, one, as))
	notApplied(t, "a level that a has not", api.ErrForm, api.Cascade{Day: 5}, asBytes(t, from, to, as))
	for _, size := range []int{0, 1025} {
		notApplied(t, "no size", api.ErrForm, a, asBytes(t, from, to, der.Oct(text(size))))
	}
	applied(t, "the greatest size", built(6, []byte{1}, text(1024)), a, asBytes(t, from, to, as, der.Oct(text(1024))))
	for many := range 20 {
		items := []api.Item{from, to}
		for range many {
			items = append(items, der.Oct([]byte{255}))
		}
		if many <= mostLevels {
			applied(t, "levels", steps(6, many, many), a, asBytes(t, items...))
		} else {
			notApplied(t, "too many levels", api.ErrForm, a, asBytes(t, items...))
		}
	}
}

func TestApplyOfOtherBytes(t *testing.T) {
	a, b := built(5, []byte{1}, []byte{2}), built(6, []byte{1}, []byte{3}, text(200))
	d := delta(t, a, b)
	for size := range d {
		notApplied(t, "cut off", api.ErrShort, a, d[:size])
	}
	for _, behind := range [][]byte{{0}, {48}, d} {
		notApplied(t, "something behind", api.ErrForm, a, append(bytes.Clone(d), behind...))
	}
	notApplied(t, "no tag", api.ErrForm, a, []byte{3, 0})
	for at := range d {
		for _, by := range []byte{1, 2, 4, 8, 16, 32, 64, 128, 255} {
			other := bytes.Clone(d)
			other[at] ^= by
			x, e := cascade.Apply(a, other)
			if e != api.OK {
				notApplied(t, "altered", e, a, other)
			} else if same(x, b) {
				t.Errorf("the altered delta %v leads there, too", other)
			}
		}
	}
}

// P10.6

func TestWhatWasMadeTellsAll(t *testing.T) {
	for _, s := range allSides() {
		for _, day := range append(days(), rising(30, 100, 1)...) {
			c := made(t, s, day)
			for _, n := range s.in {
				if !cascade.Has(c, n) {
					t.Errorf("of day %d %d is in, but is told not to be", day, n)
				}
			}
			for _, n := range s.out {
				if cascade.Has(c, n) {
					t.Errorf("of day %d %d is not in, but is told to be", day, n)
				}
			}
		}
	}
}

func TestFromDayToDay(t *testing.T) {
	held := made(t, sides{out: rising(200, 0, 3)}, 0)
	for day := 1; day < 40; day++ {
		s := sides{rising(day, 0, 3), rising(200-day, 3*day, 3)}
		today := made(t, s, day)
		d := delta(t, held, today)
		applied(t, "the next day", today, held, d)
		held, _ = cascade.Apply(held, d)
		if read, e := cascade.Get(put(t, held)); e != api.OK || !same(read, today) {
			t.Errorf("the cascade of day %d is not read as it was written", day)
		}
		for k := range 200 {
			if cascade.Has(held, 3*k) != (k < day) {
				t.Errorf("of day %d Has of %d is wrong", day, 3*k)
			}
		}
	}
}

// R2, R6

func TestNothingIsChangedOrShared(t *testing.T) {
	s := sides{rising(20, 0, 3), rising(40, 1, 3)}
	was := sides{slices.Clone(s.in), slices.Clone(s.out)}
	a := made(t, s, 2)
	whole := copied(a)
	clear(s.in)
	clear(s.out)
	if !same(a, whole) {
		t.Error("a cascade changes with the numbers that it was made of")
	}
	copy(s.in, was.in)
	copy(s.out, was.out)
	clear(made(t, s, 2).Levels[0].B)
	if !slices.Equal(s.in, was.in) || !slices.Equal(s.out, was.out) || !same(made(t, s, 2), whole) {
		t.Error("what is made hangs on what was made before")
	}
	b := copied(a)
	b.Day = 3
	for number := range b.Levels {
		b.Levels[number].Salt = salt(3, number)
	}
	b.Levels[1].B[0] ^= 255
	next := copied(b)
	bytesOfA, d := put(t, a), delta(t, a, b)
	read, _ := cascade.Get(bytesOfA)
	led, _ := cascade.Apply(a, d)
	if !same(a, whole) || !same(b, next) {
		t.Error("what was handed in is changed")
	}
	if again := put(t, a); !bytes.Equal(again, bytesOfA) {
		t.Error("Put tells something else")
	}
	clear(bytesOfA)
	clear(d)
	for number := range a.Levels {
		clear(a.Levels[number].B)
		clear(b.Levels[number].B)
	}
	if !same(read, whole) || !same(led, next) {
		t.Error("what was told changes with what was handed in")
	}
}
