package logd_test

import (
	"bytes"
	"encoding/binary"
	"math"
	"slices"
	"strconv"
	"testing"

	"greatseal/api"
	"greatseal/hash"
	"greatseal/logd"
	"greatseal/merkle"
	"greatseal/sign"
)

func leaf(body string, at int) api.Leaf { return api.Leaf{Body: []byte(body), At: at} }

// some is a log with five leaves, two of which are hidden, and two that wait.
func some() api.Log {
	return api.Log{
		Id: 3, Key: sign.Secret([]byte("log")), Delay: 20,
		L:    []api.Leaf{leaf("a", 4), leaf("bb", 0), leaf("\x00c", 4), leaf("d", api.MaxTime), leaf("e", 9)},
		Hide: []int{1, 3},
		Wait: []api.Leaf{leaf("f", 11), leaf("g", 2)},
	}
}

// long is a log with so many leaves, and so many that wait.
func long(in, waiting int) api.Log {
	l := api.Log{Key: 1}
	for k := range in {
		l.L = append(l.L, leaf("in "+strconv.Itoa(k), k))
	}
	for k := range waiting {
		l.Wait = append(l.Wait, leaf("waits "+strconv.Itoa(k), k))
	}
	return l
}

func copied(l api.Log) api.Log {
	l.L, l.Wait, l.Hide = slices.Clone(l.L), slices.Clone(l.Wait), slices.Clone(l.Hide)
	for _, some := range [][]api.Leaf{l.L, l.Wait} {
		for k, leaf := range some {
			some[k].Body = bytes.Clone(leaf.Body)
		}
	}
	return l
}

func changed(l api.Log, change func(l *api.Log)) api.Log {
	l = copied(l)
	change(&l)
	return l
}

func sameLeaf(a, b api.Leaf) bool { return bytes.Equal(a.Body, b.Body) && a.At == b.At }

func same(a, b api.Log) bool {
	return a.Id == b.Id && a.Key == b.Key && a.Delay == b.Delay && slices.EqualFunc(a.L, b.L, sameLeaf) && slices.EqualFunc(a.Wait, b.Wait, sameLeaf) && slices.Equal(a.Hide, b.Hide)
}

func samePlace(a, b api.Place) bool {
	return a.Log == b.Log && a.At == b.At && a.Size == b.Size && slices.Equal(a.Proof, b.Proof)
}

func noNumbers() []int {
	return []int{math.MinInt, -2, -1, api.MaxTime + 1, api.MaxTime + 2, math.MaxInt}
}

// another is a number that is one, too.
func another(n int) int {
	if n > 0 {
		return n - 1
	}
	return 1
}

func noViews() []int { return []int{math.MinInt, -1, 2, 3, math.MaxInt} }

// noBodies are bytes that are none.
func noBodies() [][]byte { return [][]byte{nil, {}, make([]byte, 2049), make([]byte, 5000)} }

// leavesOf are those of a view, as the chapter says.
func leavesOf(l api.Log, view int) []api.Sum {
	var sums []api.Sum
	for place, leaf := range l.L {
		if view == 1 && slices.Contains(l.Hide, place) {
			sums = append(sums, merkle.Leaf(append([]byte{0}, leaf.Body...)))
		} else {
			sums = append(sums, merkle.Leaf(leaf.Body))
		}
	}
	return sums
}

func number(b []byte, n int) []byte { return binary.BigEndian.AppendUint64(b, uint64(n)) }

func ofPromise(p api.Promise) []byte {
	b := number(number([]byte("promise"), p.Log), p.At)
	return append(b, hash.Bytes(p.Leaf)...)
}

func ofHead(h api.Head) []byte {
	b := number(number([]byte("head"), h.Log), h.Size)
	return number(append(b, hash.Bytes(h.Root)...), h.At)
}

func promised(l api.Log, body string, at int) api.Promise {
	p := api.Promise{Log: l.Id, At: at, Leaf: merkle.Leaf([]byte(body))}
	p.Sig, _ = sign.Sign(l.Key, ofPromise(p))
	return p
}

func headOf(l api.Log, view, size, now int) api.Head {
	h := api.Head{Log: l.Id, Size: size, Root: merkle.Root(leavesOf(l, view)[:size]), At: now}
	h.Sig, _ = sign.Sign(l.Key, ofHead(h))
	return h
}

// mayNot are logs that may not be, because of something else than how many leaves they have.
func mayNot() []api.Log {
	var l []api.Log
	with := func(change func(l *api.Log)) { l = append(l, changed(some(), change)) }
	for _, n := range noNumbers() {
		with(func(l *api.Log) { l.Id = n })
		for at := range 5 {
			with(func(l *api.Log) { l.L[at].At = n })
		}
		for at := range 2 {
			with(func(l *api.Log) { l.Wait[at].At = n })
		}
	}
	for _, key := range []uint64{0, api.R, api.R + 1, math.MaxUint64} {
		with(func(l *api.Log) { l.Key = key })
	}
	for _, delay := range []int{math.MinInt, -1, 1001, 1002, math.MaxInt} {
		with(func(l *api.Log) { l.Delay = delay })
	}
	for _, body := range noBodies() {
		for at := range 5 {
			with(func(l *api.Log) { l.L[at].Body = body })
		}
		for at := range 2 {
			with(func(l *api.Log) { l.Wait[at].Body = body })
		}
	}
	with(func(l *api.Log) { l.L[4].Body = []byte("a") })
	with(func(l *api.Log) { l.L[1].Body = []byte("a") })
	with(func(l *api.Log) { l.Wait[1].Body = []byte("f") })
	with(func(l *api.Log) { l.Wait[1].Body = []byte("e") })
	with(func(l *api.Log) { l.Wait[0].Body = []byte("a") })
	for _, hide := range [][]int{{-1}, {5}, {6}, {math.MinInt}, {math.MaxInt}, {1, 1}, {3, 1}, {0, 1, 1}, {0, 4, 2}, {1, 5}, {0, 0}, {-1, 0}, {0, 1, 2, 3, 4, 5}} {
		with(func(l *api.Log) { l.Hide = hide })
	}
	with(func(l *api.Log) { l.L = l.L[:3] })
	return l
}

// P24.1

func checked(t *testing.T, want api.Errno, l api.Log) {
	t.Helper()
	if e := logd.Check(l); e != want {
		t.Errorf("Check(%v) is %d, not %d", l, e, want)
	}
	if want == api.OK {
		return
	}
	// Whoever is handed a log looks at it first, whatever else is wrong.
	key, e := logd.Public(l)
	x, p, f := logd.Add(l, nil, -1)
	y, g := logd.Merge(l)
	z, h := logd.Hide(l)
	if e != want || f != want || g != want || h != want || key != (api.Key{}) || !same(x, api.Log{}) || p != (api.Promise{}) || !same(y, api.Log{}) || !same(z, api.Log{}) {
		t.Errorf("of %v others tell %d, %d, %d, %d", l, e, f, g, h)
	}
	sums, e := logd.Leaves(l, -1)
	head, f := logd.Head(l, -1, -1, -1)
	place, g := logd.Prove(l, -1, -1, -1)
	proof, h := logd.Grow(l, -1, -1, -1)
	if e != want || f != want || g != want || h != want || len(sums) != 0 || head != (api.Head{}) || !samePlace(place, api.Place{}) || len(proof) != 0 {
		t.Errorf("of %v others tell %d, %d, %d, %d", l, e, f, g, h)
	}
}

func TestCheckOfWhatMayBe(t *testing.T) {
	checked(t, api.OK, some())
	checked(t, api.OK, api.Log{Key: 1, L: []api.Leaf{}, Hide: []int{}, Wait: []api.Leaf{}})
	for _, n := range []int{0, 1, api.MaxTime - 1, api.MaxTime} {
		checked(t, api.OK, changed(some(), func(l *api.Log) { l.Id = n }))
		checked(t, api.OK, changed(some(), func(l *api.Log) { l.L[1].At = n }))
		checked(t, api.OK, changed(some(), func(l *api.Log) { l.Wait[1].At = n }))
	}
	for _, key := range []uint64{1, 2, api.R - 2, api.R - 1} {
		checked(t, api.OK, changed(some(), func(l *api.Log) { l.Key = key }))
	}
	for _, delay := range []int{0, 1, 999, 1000} {
		checked(t, api.OK, changed(some(), func(l *api.Log) { l.Delay = delay }))
	}
	for _, size := range []int{1, 2047, 2048} {
		checked(t, api.OK, changed(some(), func(l *api.Log) { l.L[3].Body = make([]byte, size) }))
		checked(t, api.OK, changed(some(), func(l *api.Log) { l.Wait[1].Body = make([]byte, size) }))
	}
	for _, hide := range [][]int{nil, {0}, {4}, {0, 4}, {0, 1, 2, 3, 4}} {
		checked(t, api.OK, changed(some(), func(l *api.Log) { l.Hide = hide }))
	}
	// What is shown otherwise may be another body.
	checked(t, api.OK, changed(some(), func(l *api.Log) { l.L[0].Body = []byte("\x00bb") }))
	for _, x := range [][2]int{{256, 0}, {0, 256}, {100, 156}, {255, 1}} {
		checked(t, api.OK, long(x[0], x[1]))
	}
}

func TestCheckOfWhatMayNotBe(t *testing.T) {
	for _, l := range mayNot() {
		checked(t, api.ErrArg, l)
	}
	for _, x := range [][2]int{{257, 0}, {0, 257}, {100, 157}, {256, 1}, {300, 300}} {
		checked(t, api.ErrBound, long(x[0], x[1]))
		checked(t, api.ErrArg, changed(long(x[0], x[1]), func(l *api.Log) { l.Delay = -1 }))
		checked(t, api.ErrArg, changed(long(x[0], x[1]), func(l *api.Log) { l.Hide = []int{x[0]} }))
	}
	checked(t, api.ErrArg, changed(long(300, 0), func(l *api.Log) { l.L[299].Body = l.L[0].Body }))
}

func TestNew(t *testing.T) {
	for _, seed := range []string{"", "seed", "another"} {
		for _, id := range []int{0, 7, api.MaxTime} {
			for _, delay := range []int{0, 20, 1000} {
				want := api.Log{Id: id, Key: sign.Secret([]byte(seed)), Delay: delay}
				if l, e := logd.New(id, []byte(seed), delay); !same(l, want) || e != api.OK {
					t.Errorf("New(%d, %q, %d) is %v, %d", id, seed, delay, l, e)
				}
			}
		}
	}
	none := func(id, delay int) {
		t.Helper()
		if l, e := logd.New(id, []byte("seed"), delay); !same(l, api.Log{}) || e != api.ErrArg {
			t.Errorf("New(%d, %d) is %v, %d", id, delay, l, e)
		}
	}
	for _, id := range noNumbers() {
		none(id, 5)
	}
	for _, delay := range []int{math.MinInt, -1, 1001, math.MaxInt} {
		none(5, delay)
	}
}

func TestPublic(t *testing.T) {
	for _, l := range []api.Log{some(), long(0, 0), changed(some(), func(l *api.Log) { l.Key, l.Delay, l.Id = api.R-1, 1000, api.MaxTime })} {
		public, _ := sign.Public(l.Key)
		if key, e := logd.Public(l); key != (api.Key{Log: l.Id, Key: public, Delay: l.Delay}) || e != api.OK {
			t.Errorf("Public(%v) is %v, %d", l, key, e)
		}
	}
}

// P24.2

func added(t *testing.T, l api.Log, body []byte, now int, want api.Log, wantP api.Promise, wantE api.Errno) {
	t.Helper()
	if x, p, e := logd.Add(l, body, now); !same(x, want) || p != wantP || e != wantE {
		t.Errorf("Add(%v, %q, %d) is %v, %v, %d, not %v, %v, %d", l, body, now, x, p, e, want, wantP, wantE)
	}
}

func TestAdd(t *testing.T) {
	for _, now := range []int{0, 30, api.MaxTime} {
		for _, body := range []string{"new", "\x00", "\x00bb", "c", "aa", string(make([]byte, 2048))} {
			want := changed(some(), func(l *api.Log) { l.Wait = append(l.Wait, leaf(body, now)) })
			added(t, some(), []byte(body), now, want, promised(some(), body, now), api.OK)
			first := api.Log{Id: 5, Key: api.R - 1}
			added(t, first, []byte(body), now, api.Log{Id: 5, Key: api.R - 1, Wait: []api.Leaf{leaf(body, now)}}, promised(first, body, now), api.OK)
		}
		// What is there already is promised as it was, also when it is hidden.
		for _, there := range append(some().L, some().Wait...) {
			added(t, some(), there.Body, now, some(), promised(some(), string(there.Body), there.At), api.OK)
		}
	}
}

func TestAddAgain(t *testing.T) {
	l, first, _ := logd.Add(some(), []byte("new"), 30)
	for range 2 {
		added(t, l, []byte("new"), 31, l, first, api.OK)
		l, _ = logd.Merge(l)
		added(t, l, []byte("new"), 90, l, first, api.OK)
		l, _ = logd.Hide(l)
		added(t, l, []byte("new"), 5, l, first, api.OK)
	}
}

func TestAddOfWhatMayNotBe(t *testing.T) {
	for _, l := range []api.Log{some(), long(256, 0)} {
		for _, body := range noBodies() {
			added(t, l, body, 5, api.Log{}, api.Promise{}, api.ErrArg)
		}
		for _, now := range noNumbers() {
			added(t, l, []byte("new"), now, api.Log{}, api.Promise{}, api.ErrArg)
			added(t, l, []byte("a"), now, api.Log{}, api.Promise{}, api.ErrArg)
		}
	}
}

func TestAddAtTheBounds(t *testing.T) {
	for _, x := range [][2]int{{256, 0}, {0, 256}, {100, 156}, {1, 255}} {
		l := long(x[0], x[1])
		added(t, l, []byte("new"), 5, api.Log{}, api.Promise{}, api.ErrBound)
		for _, there := range slices.Concat(l.L, l.Wait)[250:] {
			added(t, l, there.Body, 5, l, promised(l, string(there.Body), there.At), api.OK)
		}
	}
	for _, x := range [][2]int{{255, 0}, {0, 255}, {100, 155}} {
		l := long(x[0], x[1])
		want := changed(l, func(l *api.Log) { l.Wait = append(l.Wait, leaf("new", 5)) })
		added(t, l, []byte("new"), 5, want, promised(l, "new", 5), api.OK)
	}
}

// P24.3

func TestMerge(t *testing.T) {
	for _, l := range []api.Log{some(), long(0, 0), long(5, 0), long(0, 5), long(100, 156), long(0, 256)} {
		want := changed(l, func(l *api.Log) { l.L, l.Wait = append(l.L, l.Wait...), nil })
		x, e := logd.Merge(l)
		if !same(x, want) || e != api.OK {
			t.Errorf("Merge(%v) is %v, %d", l, x, e)
		}
		if y, e := logd.Merge(x); !same(y, want) || e != api.OK {
			t.Errorf("Merge again is %v, %d", y, e)
		}
	}
}

func TestHide(t *testing.T) {
	for _, x := range []struct {
		hide, want []int
	}{{[]int{1, 3}, []int{1, 3, 4}}, {nil, []int{4}}, {[]int{4}, []int{4}}, {[]int{0, 4}, []int{0, 4}}, {[]int{0, 1, 2, 3}, []int{0, 1, 2, 3, 4}}, {[]int{3}, []int{3, 4}}} {
		l := changed(some(), func(l *api.Log) { l.Hide = x.hide })
		want := changed(some(), func(l *api.Log) { l.Hide = x.want })
		y, e := logd.Hide(l)
		if !same(y, want) || e != api.OK {
			t.Errorf("Hide(%v) is %v, %d", x.hide, y, e)
		}
		if z, e := logd.Hide(y); !same(z, want) || e != api.OK {
			t.Errorf("Hide again is %v, %d", z, e)
		}
	}
	// What waits is no leaf yet.
	for _, l := range []api.Log{long(0, 0), long(0, 3)} {
		if x, e := logd.Hide(l); !same(x, api.Log{}) || e != api.ErrLog {
			t.Errorf("Hide(%v) is %v, %d", l, x, e)
		}
	}
	x, _ := logd.Hide(long(1, 3))
	if !slices.Equal(x.Hide, []int{0}) {
		t.Errorf("Hide of one leaf is %v", x)
	}
	x, _ = logd.Merge(x)
	if x, _ = logd.Hide(x); !slices.Equal(x.Hide, []int{0, 3}) {
		t.Errorf("Hide of four leaves is %v", x)
	}
}

// P24.4

func TestLeaves(t *testing.T) {
	for _, l := range []api.Log{some(), long(0, 0), long(0, 3), long(7, 3), changed(long(40, 0), func(l *api.Log) { l.Hide = []int{0, 17, 39} }), changed(some(), func(l *api.Log) { l.Hide = []int{0, 1, 2, 3, 4} })} {
		for view := range 2 {
			if sums, e := logd.Leaves(l, view); !slices.Equal(sums, leavesOf(l, view)) || e != api.OK {
				t.Errorf("Leaves(%v, %d) is %v, %d", l, view, sums, e)
			}
		}
	}
	want := []api.Sum{merkle.Leaf([]byte("a")), merkle.Leaf([]byte("\x00bb")), merkle.Leaf([]byte("\x00c")), merkle.Leaf([]byte("\x00d")), merkle.Leaf([]byte("e"))}
	if sums, e := logd.Leaves(some(), 1); !slices.Equal(sums, want) || e != api.OK {
		t.Errorf("the second view is %v, %d", sums, e)
	}
}

func TestOfNoView(t *testing.T) {
	for _, view := range noViews() {
		sums, e := logd.Leaves(some(), view)
		head, f := logd.Head(some(), view, -1, -1)
		place, g := logd.Prove(some(), view, -1, -1)
		proof, h := logd.Grow(some(), view, -1, -1)
		for _, e := range []api.Errno{e, f, g, h} {
			if e != api.ErrLog {
				t.Errorf("of the view %d %d is told", view, e)
			}
		}
		if len(sums) != 0 || head != (api.Head{}) || !samePlace(place, api.Place{}) || len(proof) != 0 {
			t.Errorf("of the view %d something is told", view)
		}
	}
}

func headed(t *testing.T, l api.Log, view, size, now int, want api.Head, wantE api.Errno) {
	t.Helper()
	if h, e := logd.Head(l, view, size, now); h != want || e != wantE {
		t.Errorf("Head(%v, %d, %d, %d) is %v, %d, not %v, %d", l, view, size, now, h, e, want, wantE)
	}
}

func TestHead(t *testing.T) {
	for view := range 2 {
		for size := range 6 {
			for _, now := range []int{0, 7, api.MaxTime} {
				headed(t, some(), view, size, now, headOf(some(), view, size, now), api.OK)
			}
			for _, now := range noNumbers() {
				headed(t, some(), view, size, now, api.Head{}, api.ErrArg)
			}
		}
		for _, size := range []int{math.MinInt, -1, 6, 7, 256, math.MaxInt} {
			headed(t, some(), view, size, 7, api.Head{}, api.ErrSize)
			headed(t, some(), view, size, -1, api.Head{}, api.ErrArg)
		}
		headed(t, long(0, 3), view, 0, 7, headOf(long(0, 3), view, 0, 7), api.OK)
		headed(t, long(0, 3), view, 1, 7, api.Head{}, api.ErrSize)
	}
	whole := changed(long(256, 0), func(l *api.Log) { l.Hide = []int{200, 255} })
	for _, size := range []int{1, 2, 128, 200, 201, 255, 256} {
		for view := range 2 {
			headed(t, whole, view, size, 7, headOf(whole, view, size, 7), api.OK)
		}
	}
	headed(t, whole, 0, 257, 7, api.Head{}, api.ErrSize)
}

// P24.5

func TestProve(t *testing.T) {
	l := changed(long(9, 2), func(l *api.Log) { l.Hide, l.Id = []int{2, 7}, 6 })
	for view := range 2 {
		for size := -1; size <= 11; size++ {
			for at := -1; at <= 11; at++ {
				place, e := logd.Prove(l, view, at, size)
				if size < 0 || size > 9 || at < 0 || at >= size {
					if !samePlace(place, api.Place{}) || e != api.ErrSize {
						t.Errorf("Prove(%d, %d, %d) is %v, %d", view, at, size, place, e)
					}
					continue
				}
				proof, _ := merkle.Prove(leavesOf(l, view)[:size], at)
				if !samePlace(place, api.Place{Log: 6, At: at, Size: size, Proof: proof}) || e != api.OK {
					t.Errorf("Prove(%d, %d, %d) is %v, %d", view, at, size, place, e)
				}
			}
		}
	}
	for _, n := range []int{math.MinInt, 256, math.MaxInt} {
		if place, e := logd.Prove(l, 0, 3, n); !samePlace(place, api.Place{}) || e != api.ErrSize {
			t.Errorf("Prove of the size %d is %v, %d", n, place, e)
		}
		if place, e := logd.Prove(l, 0, n, 9); !samePlace(place, api.Place{}) || e != api.ErrSize {
			t.Errorf("Prove of the place %d is %v, %d", n, place, e)
		}
	}
}

func TestGrow(t *testing.T) {
	l := changed(long(9, 2), func(l *api.Log) { l.Hide = []int{2, 7} })
	for view := range 2 {
		for size := -1; size <= 11; size++ {
			for from := -1; from <= 11; from++ {
				proof, e := logd.Grow(l, view, from, size)
				if size < 0 || size > 9 || from < 0 || from > size {
					if len(proof) != 0 || e != api.ErrSize {
						t.Errorf("Grow(%d, %d, %d) is %v, %d", view, from, size, proof, e)
					}
					continue
				}
				want, _ := merkle.Grow(leavesOf(l, view)[:size], from)
				if !slices.Equal(proof, want) || e != api.OK {
					t.Errorf("Grow(%d, %d, %d) is %v, %d, not %v", view, from, size, proof, e, want)
				}
			}
		}
	}
	for _, n := range []int{math.MinInt, 256, math.MaxInt} {
		if proof, e := logd.Grow(l, 0, 3, n); len(proof) != 0 || e != api.ErrSize {
			t.Errorf("Grow of the size %d is %v, %d", n, proof, e)
		}
		if proof, e := logd.Grow(l, 0, n, 9); len(proof) != 0 || e != api.ErrSize {
			t.Errorf("Grow from %d is %v, %d", n, proof, e)
		}
	}
}

// P24.6

// noKeys are none of the group: 2 is no square, and of a number and what is missing from it to Q just one is.
func noKeys() []uint64 {
	return []uint64{0, 2, api.Q - 1, api.Q - 4, api.Q, math.MaxUint64}
}

func wrongSigs(s api.Sig) []api.Sig {
	return []api.Sig{{}, {E: s.E ^ 1, S: s.S}, {E: s.E, S: s.S ^ 1}, {E: s.E, S: s.S + api.R}, {E: s.E + api.R, S: s.S}, {E: s.S, S: s.E}, {E: api.R, S: api.R}}
}

func TestCheckPromise(t *testing.T) {
	is := func(what string, k api.Key, p api.Promise, want api.Errno) {
		t.Helper()
		if e := logd.CheckPromise(k, p); e != want {
			t.Errorf("%s: CheckPromise(%v, %v) is %d, not %d", what, k, p, e, want)
		}
	}
	for _, id := range []int{0, 3, api.MaxTime} {
		l := changed(some(), func(l *api.Log) { l.Id = id })
		k, _ := logd.Public(l)
		for _, at := range []int{0, 8, api.MaxTime} {
			_, p, _ := logd.Add(l, []byte("new"), at)
			is("right", k, p, api.OK)
			is("of any delay", api.Key{Log: id, Key: k.Key, Delay: -7}, p, api.OK)
			for _, change := range []func(p *api.Promise){func(p *api.Promise) { p.At = another(p.At) }, func(p *api.Promise) { p.Leaf[0] ^= 1 }, func(p *api.Promise) { p.Leaf[1] ^= 1 }, func(p *api.Promise) { p.Leaf[0], p.Leaf[1] = p.Leaf[1], p.Leaf[0] }} {
				wrong := p
				change(&wrong)
				is("something else", k, wrong, api.ErrSig)
			}
			for _, sig := range wrongSigs(p.Sig) {
				wrong := p
				wrong.Sig = sig
				is("another signature", k, wrong, api.ErrSig)
			}
			other := p
			other.Log = another(id)
			is("of another log", k, other, api.ErrLog)
			is("said to be of another log", api.Key{Log: other.Log, Key: k.Key, Delay: k.Delay}, other, api.ErrSig)
			is("by another key", api.Key{Log: id, Key: 4}, p, api.ErrSig)
			for _, key := range noKeys() {
				is("by no key", api.Key{Log: id, Key: key}, p, api.ErrArg)
				is("by no key, of another log", api.Key{Log: id, Key: key}, other, api.ErrLog)
			}
			for _, n := range noNumbers() {
				wrong := p
				wrong.At = n
				is("no time", k, wrong, api.ErrArg)
				is("no time, of another log", api.Key{Log: another(id), Key: 2}, wrong, api.ErrArg)
				wrong = p
				wrong.Log = n
				is("no log", k, wrong, api.ErrArg)
				is("no log", api.Key{Log: n, Key: k.Key}, wrong, api.ErrArg)
			}
		}
	}
}

func TestCheckHead(t *testing.T) {
	is := func(what string, k api.Key, h api.Head, want api.Errno) {
		t.Helper()
		if e := logd.CheckHead(k, h); e != want {
			t.Errorf("%s: CheckHead(%v, %v) is %d, not %d", what, k, h, e, want)
		}
	}
	for _, id := range []int{0, 3, api.MaxTime} {
		l := changed(some(), func(l *api.Log) { l.Id = id })
		k, _ := logd.Public(l)
		for _, at := range []int{0, 8, api.MaxTime} {
			h, _ := logd.Head(l, 0, 4, at)
			is("right", k, h, api.OK)
			is("of any delay", api.Key{Log: id, Key: k.Key, Delay: -7}, h, api.OK)
			for _, change := range []func(h *api.Head){func(h *api.Head) { h.At = another(h.At) }, func(h *api.Head) { h.Size++ }, func(h *api.Head) { h.Size = 0 }, func(h *api.Head) { h.Size = 256 }, func(h *api.Head) { h.Root[0] ^= 1 }, func(h *api.Head) { h.Root[1] ^= 1 }} {
				wrong := h
				change(&wrong)
				is("something else", k, wrong, api.ErrSig)
			}
			for _, sig := range wrongSigs(h.Sig) {
				wrong := h
				wrong.Sig = sig
				is("another signature", k, wrong, api.ErrSig)
			}
			other := h
			other.Log = another(id)
			is("of another log", k, other, api.ErrLog)
			is("said to be of another log", api.Key{Log: other.Log, Key: k.Key}, other, api.ErrSig)
			is("by another key", api.Key{Log: id, Key: 4}, h, api.ErrSig)
			for _, key := range noKeys() {
				is("by no key", api.Key{Log: id, Key: key}, h, api.ErrArg)
				is("by no key, of another log", api.Key{Log: id, Key: key}, other, api.ErrLog)
			}
			for _, n := range noNumbers() {
				wrong := h
				wrong.At = n
				is("no time, of another log", api.Key{Log: another(id), Key: 2}, wrong, api.ErrArg)
				wrong = h
				wrong.Log = n
				is("no log", k, wrong, api.ErrArg)
				is("no log", api.Key{Log: n, Key: k.Key}, wrong, api.ErrArg)
			}
			for _, n := range []int{math.MinInt, -1, 257, math.MaxInt} {
				wrong := h
				wrong.Size = n
				is("no size, of another log", api.Key{Log: another(id), Key: 2}, wrong, api.ErrArg)
			}
		}
	}
	// Of 256 leaves, and of none.
	for _, size := range []int{0, 256} {
		l := long(256, 0)
		k, _ := logd.Public(l)
		is("right", k, headOf(l, 0, size, 7), api.OK)
	}
}

// Numbers that were worked out once: what is signed must stay what it is.

func TestWhatIsSigned(t *testing.T) {
	p := api.Promise{Log: 3, At: 258, Leaf: api.Sum{5, 1 << 40}}
	p.Sig, _ = sign.Sign(77, []byte("promise"+"\x00\x00\x00\x00\x00\x00\x00\x03"+"\x00\x00\x00\x00\x00\x00\x01\x02"+"\x00\x00\x00\x00\x00\x00\x00\x05\x00\x00\x01\x00\x00\x00\x00\x00"))
	key, _ := sign.Public(77)
	if e := logd.CheckPromise(api.Key{Log: 3, Key: key}, p); e != api.OK {
		t.Errorf("CheckPromise tells %d", e)
	}
	h := api.Head{Log: 3, Size: 9, Root: api.Sum{5, 1 << 40}, At: 258}
	h.Sig, _ = sign.Sign(77, []byte("head"+"\x00\x00\x00\x00\x00\x00\x00\x03"+"\x00\x00\x00\x00\x00\x00\x00\x09"+"\x00\x00\x00\x00\x00\x00\x00\x05\x00\x00\x01\x00\x00\x00\x00\x00"+"\x00\x00\x00\x00\x00\x00\x01\x02"))
	if e := logd.CheckHead(api.Key{Log: 3, Key: key}, h); e != api.OK {
		t.Errorf("CheckHead tells %d", e)
	}
}

// P24.7

func TestWhatWasPromisedIsProved(t *testing.T) {
	l, _ := logd.New(4, []byte("seed"), 9)
	key, _ := logd.Public(l)
	var promises []api.Promise
	var heads []api.Head
	for k := range 20 {
		var p api.Promise
		l, p, _ = logd.Add(l, []byte("body "+strconv.Itoa(k)), k)
		promises = append(promises, p)
		if e := logd.CheckPromise(key, p); e != api.OK {
			t.Errorf("CheckPromise is %d", e)
		}
		if k%3 != 0 {
			continue
		}
		l, _ = logd.Merge(l)
		if k == 12 {
			l, _ = logd.Hide(l)
		}
		h, _ := logd.Head(l, 0, len(l.L), k)
		heads = append(heads, h)
		for at, p := range promises {
			place, e := logd.Prove(l, 0, at, h.Size)
			if e != api.OK || logd.CheckHead(key, h) != api.OK || merkle.Check(p.Leaf, place.At, place.Size, place.Proof, h.Root) != api.OK {
				t.Errorf("the promise %d is not kept in %v", at, h)
			}
		}
		for _, old := range heads {
			proof, e := logd.Grow(l, 0, old.Size, h.Size)
			if e != api.OK || merkle.CheckGrow(old.Size, h.Size, old.Root, h.Root, proof) != api.OK {
				t.Errorf("%v has not grown to %v", old, h)
			}
		}
	}
	for size := range len(l.L) + 1 {
		a, _ := logd.Head(l, 0, size, 90)
		b, _ := logd.Head(l, 1, size, 90)
		if (a.Root == b.Root) != (size <= 12) {
			t.Errorf("of the size %d the views have the roots %v and %v", size, a.Root, b.Root)
		}
	}
	first, _ := logd.Leaves(l, 0)
	second, _ := logd.Leaves(l, 1)
	for place := range first {
		if (first[place] == second[place]) != (place != 12) {
			t.Errorf("at %d the views have %v and %v", place, first[place], second[place])
		}
	}
}

// R2

// roomy is some, whose lists have room behind them.
func roomy() api.Log {
	l := some()
	l.L, l.Wait, l.Hide = slices.Grow(l.L, 9), slices.Grow(l.Wait, 9), slices.Grow(l.Hide, 9)
	for _, some := range [][]api.Leaf{l.L, l.Wait} {
		for k, leaf := range some {
			some[k].Body = slices.Grow(leaf.Body, 9)
		}
	}
	return l
}

func spoil(l api.Log) {
	for _, some := range [][]api.Leaf{l.L, l.Wait} {
		for _, leaf := range some {
			clear(leaf.Body[:cap(leaf.Body)])
		}
		clear(some[:cap(some)])
	}
	clear(l.Hide[:cap(l.Hide)])
}

func TestNothingIsChangedOrShared(t *testing.T) {
	for k, call := range []func(l api.Log) api.Log{
		func(l api.Log) api.Log { x, _, _ := logd.Add(l, []byte("new"), 5); return x },
		func(l api.Log) api.Log { x, _, _ := logd.Add(l, []byte("a"), 5); return x },
		func(l api.Log) api.Log { x, _ := logd.Merge(l); return x },
		func(l api.Log) api.Log { x, _ := logd.Hide(l); return x },
	} {
		l := roomy()
		x := call(l)
		was := copied(x)
		if !same(l, some()) || len(l.L[:6][5].Body) != 0 || len(l.Wait[:3][2].Body) != 0 || l.Hide[:3][2] != 0 || string(l.L[0].Body[:2]) != "a\x00" {
			t.Errorf("call %d changes what is handed in", k)
		}
		spoil(l)
		if !same(x, was) {
			t.Errorf("what call %d has told changes with what was handed in", k)
		}
		l = roomy()
		spoil(call(l))
		if !same(l, some()) {
			t.Errorf("what was handed in changes with what call %d has told", k)
		}
	}
	body := []byte("new")
	x, _, _ := logd.Add(some(), body, 5)
	body[0] = 'x'
	if string(x.Wait[2].Body) != "new" {
		t.Errorf("a log changes with the body that it was handed")
	}
	x.Wait[2].Body[1] = 'x'
	if string(body) != "xew" {
		t.Errorf("the body that was handed in changes with the log")
	}
	for view := range 2 {
		l := roomy()
		logd.Leaves(l, view)
		logd.Head(l, view, 5, 5)
		logd.Prove(l, view, 1, 5)
		logd.Grow(l, view, 1, 5)
		if !same(l, some()) || string(l.L[1].Body[:3]) != "bb\x00" {
			t.Errorf("a log changes when it is asked")
		}
	}
}

// The chapter's example

func TestExample(t *testing.T) {
	l, _ := logd.New(0, []byte("seed"), 5)
	l, _, _ = logd.Add(l, []byte("one"), 1)
	l, _, _ = logd.Add(l, []byte("two"), 2)
	l, _ = logd.Merge(l)
	l, e := logd.Hide(l)
	if e != api.OK {
		t.Fatal(e)
	}
	one, two, other := merkle.Leaf([]byte("one")), merkle.Leaf([]byte("two")), merkle.Leaf([]byte("\x00two"))
	for _, x := range []struct {
		view, size int
		root       api.Sum
	}{{0, 1, one}, {1, 1, one}, {0, 2, hash.Pair(one, two)}, {1, 2, hash.Pair(one, other)}} {
		if h, e := logd.Head(l, x.view, x.size, 9); h.Root != x.root || e != api.OK {
			t.Errorf("Head(%d, %d) is %v, %d", x.view, x.size, h, e)
		}
	}
}
