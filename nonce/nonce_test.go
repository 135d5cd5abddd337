package nonce_test

import (
	"math"
	"slices"
	"testing"

	"greatseal/api"
	"greatseal/nonce"
)

// some are nonces of which several are too old at several times.
func some() api.Fence {
	return api.Fence{Next: 20, Open: []api.Nonce{{N: 0, Until: 50}, {N: 3, Until: 10}, {N: 4, Until: 0}, {N: 9, Until: 10}, {N: 18, Until: api.MaxTime}, {N: 19, Until: 11}}}
}

// many are so many, of which each may be used till 100 and its place.
func many(number int) api.Fence {
	f := api.Fence{Next: 1000}
	for k := range number {
		f.Open = append(f.Open, api.Nonce{N: 2 * k, Until: 100 + k})
	}
	return f
}

func noTimes() []int {
	return []int{math.MinInt, -2, -1, api.MaxTime + 1, api.MaxTime + 2, math.MaxInt}
}

func changed(f api.Fence, change func(f *api.Fence)) api.Fence {
	f.Open = slices.Clone(f.Open)
	change(&f)
	return f
}

func same(a, b api.Fence) bool { return a.Next == b.Next && slices.Equal(a.Open, b.Open) }

func mayBe() []api.Fence {
	l := []api.Fence{{}, {Open: []api.Nonce{}}, {Next: 1}, {Next: api.MaxTime}, some(), many(1), many(63), many(64), {Next: 1, Open: []api.Nonce{{}}}, {Next: 2, Open: []api.Nonce{{}, {N: 1}}}, {Next: api.MaxTime, Open: []api.Nonce{{N: 0}, {N: api.MaxTime - 1, Until: api.MaxTime}}}}
	for _, until := range []int{0, 1, api.MaxTime - 1, api.MaxTime} {
		l = append(l, changed(some(), func(f *api.Fence) { f.Open[3].Until = until }))
	}
	return l
}

// mayNot may not be, because of something else than how many they are.
func mayNot() []api.Fence {
	var l []api.Fence
	for _, n := range noTimes() {
		l = append(l, api.Fence{Next: n}, changed(some(), func(f *api.Fence) { f.Next = n }))
		for at := range some().Open {
			l = append(l, changed(some(), func(f *api.Fence) { f.Open[at].Until = n }), changed(some(), func(f *api.Fence) { f.Open[at].N = n }))
		}
	}
	for next := range 20 {
		l = append(l, changed(some(), func(f *api.Fence) { f.Next = next }))
	}
	for at := range len(some().Open) - 1 {
		l = append(l, changed(some(), func(f *api.Fence) { f.Open[at+1].N = f.Open[at].N }), changed(some(), func(f *api.Fence) { f.Open[at], f.Open[at+1] = f.Open[at+1], f.Open[at] }), changed(some(), func(f *api.Fence) { f.Open[at+1].N = f.Open[at].N - 1 }))
	}
	return append(l,
		api.Fence{Open: []api.Nonce{{}}}, api.Fence{Next: 5, Open: []api.Nonce{{N: 5}}}, api.Fence{Next: 5, Open: []api.Nonce{{N: 6}}}, api.Fence{Next: api.MaxTime, Open: []api.Nonce{{N: api.MaxTime}}}, api.Fence{Next: 5, Open: []api.Nonce{{N: 2}, {N: 2}}}, api.Fence{Next: 5, Open: []api.Nonce{{N: 2}, {N: 3}, {N: 1}}},
		changed(many(65), func(f *api.Fence) { f.Open[64].N = 2 }), changed(many(100), func(f *api.Fence) { f.Open[99].Until = -1 }), changed(many(65), func(f *api.Fence) { f.Next = api.MaxTime + 1 }),
	)
}

func tooMany() []api.Fence { return []api.Fence{many(65), many(66), many(400)} }

func checked(t *testing.T, want api.Errno, f api.Fence) {
	t.Helper()
	if e := nonce.Check(f); e != want {
		t.Errorf("Check(%v) is %d, not %d", f, e, want)
	}
}

func trimmed(t *testing.T, want, f api.Fence, now int) {
	t.Helper()
	if x := nonce.Trim(f, now); !same(x, want) {
		t.Errorf("Trim(%v, %d) is %v, not %v", f, now, x, want)
	}
}

func told(t *testing.T, want, f api.Fence, now, life, wantN int, wantE api.Errno) {
	t.Helper()
	if x, n, e := nonce.Tell(f, now, life); !same(x, want) || n != wantN || e != wantE {
		t.Errorf("Tell(%v, %d, %d) is %v, %d, %d, not %v, %d, %d", f, now, life, x, n, e, want, wantN, wantE)
	}
}

func used(t *testing.T, want, f api.Fence, n, now int, wantE api.Errno) {
	t.Helper()
	if x, e := nonce.Use(f, n, now); !same(x, want) || e != wantE {
		t.Errorf("Use(%v, %d, %d) is %v, %d, not %v, %d", f, n, now, x, e, want, wantE)
	}
}

// left are nonces without those that are too old.
func left(f api.Fence, now int) api.Fence {
	x := api.Fence{Next: f.Next}
	for _, open := range f.Open {
		if open.Until >= now {
			x.Open = append(x.Open, open)
		}
	}
	return x
}

func with(f api.Fence, until int) api.Fence {
	return changed(f, func(f *api.Fence) {
		f.Open = append(f.Open, api.Nonce{N: f.Next, Until: until})
		f.Next++
	})
}

// P21.1

func TestCheck(t *testing.T) {
	for _, f := range mayBe() {
		checked(t, api.OK, f)
	}
	for _, f := range mayNot() {
		checked(t, api.ErrArg, f)
	}
	for _, f := range tooMany() {
		checked(t, api.ErrBound, f)
	}
}

func TestTrim(t *testing.T) {
	for _, f := range append(mayBe(), append(mayNot(), tooMany()...)...) {
		for _, now := range []int{math.MinInt, -1, 0, 1, 9, 10, 11, 12, 50, 51, 100, 163, 164, 165, 500, api.MaxTime - 1, api.MaxTime, api.MaxTime + 1, math.MaxInt} {
			trimmed(t, left(f, now), f, now)
		}
	}
	trimmed(t, api.Fence{Next: 20, Open: []api.Nonce{{N: 0, Until: 50}, {N: 18, Until: api.MaxTime}, {N: 19, Until: 11}}}, some(), 11)
	trimmed(t, api.Fence{Next: 20, Open: []api.Nonce{{N: 0, Until: 50}, {N: 18, Until: api.MaxTime}}}, some(), 12)
	trimmed(t, api.Fence{Next: 20}, some(), api.MaxTime+1)
	// Of nonces that may not be as well, whatever they are.
	trimmed(t, api.Fence{Next: -7, Open: []api.Nonce{{N: 5, Until: 5}, {N: -1, Until: math.MaxInt}, {N: 5, Until: 7}}}, api.Fence{Next: -7, Open: []api.Nonce{{N: 5, Until: 5}, {N: 9, Until: math.MinInt}, {N: -1, Until: math.MaxInt}, {N: 5, Until: 7}, {N: 5, Until: 4}}}, 5)
	trimmed(t, api.Fence{Open: []api.Nonce{{Until: math.MinInt}}}, api.Fence{Open: []api.Nonce{{Until: math.MinInt}}}, math.MinInt)
}

// P21.2

func TestTell(t *testing.T) {
	for _, x := range []struct{ now, life int }{{0, 1}, {0, api.MaxTime}, {5, 10}, {9, 1}, {10, 1}, {11, 7}, {12, 1}, {51, 3}, {1, api.MaxTime - 1}, {api.MaxTime - 1, 1}, {api.MaxTime - 5, 5}} {
		told(t, with(left(some(), x.now), x.now+x.life), some(), x.now, x.life, 20, api.OK)
		told(t, api.Fence{Next: 1, Open: []api.Nonce{{N: 0, Until: x.now + x.life}}}, api.Fence{}, x.now, x.life, 0, api.OK)
	}
	last := api.Fence{Next: api.MaxTime - 1}
	told(t, api.Fence{Next: api.MaxTime, Open: []api.Nonce{{N: api.MaxTime - 1, Until: 15}}}, last, 5, 10, api.MaxTime-1, api.OK)
}

func TestTellOfWhatMayNotBe(t *testing.T) {
	lives := append(noTimes(), 0)
	for _, f := range []api.Fence{{}, some(), many(64), {Next: api.MaxTime}} {
		for _, n := range noTimes() {
			told(t, api.Fence{}, f, n, 5, 0, api.ErrArg)
			told(t, api.Fence{}, f, n, 0, 0, api.ErrArg)
			told(t, api.Fence{}, f, n, -n, 0, api.ErrArg)
		}
		for _, life := range lives {
			told(t, api.Fence{}, f, 5, life, 0, api.ErrArg)
			told(t, api.Fence{}, f, 0, life, 0, api.ErrArg)
			told(t, api.Fence{}, f, api.MaxTime, life, 0, api.ErrArg)
		}
		for _, x := range []struct{ now, life int }{{1, api.MaxTime}, {api.MaxTime, 1}, {api.MaxTime, api.MaxTime}, {api.MaxTime - 5, 6}, {500, api.MaxTime - 499}, {api.MaxTime / 2, api.MaxTime/2 + 1}} {
			told(t, api.Fence{}, f, x.now, x.life, 0, api.ErrArg)
		}
	}
	for _, x := range []struct{ now, life int }{{5, 10}, {-1, 10}, {5, 0}, {api.MaxTime, api.MaxTime}} {
		for _, f := range mayNot() {
			told(t, api.Fence{}, f, x.now, x.life, 0, api.ErrArg)
		}
		for _, f := range tooMany() {
			told(t, api.Fence{}, f, x.now, x.life, 0, api.ErrBound)
		}
	}
	// Those that are too old count for Check still.
	told(t, api.Fence{}, many(65), 150, 5, 0, api.ErrBound)
}

func TestTellAtTheBounds(t *testing.T) {
	for now := range 300 {
		if now <= 100 {
			told(t, api.Fence{}, many(64), now, 5, 0, api.ErrBound)
		} else {
			told(t, with(left(many(64), now), now+5), many(64), now, 5, 1000, api.OK)
		}
		told(t, with(left(many(63), now), now+5), many(63), now, 5, 1000, api.OK)
	}
	one := changed(many(64), func(f *api.Fence) { f.Open[40].Until = 3 })
	told(t, api.Fence{}, one, 3, 5, 0, api.ErrBound)
	told(t, with(left(one, 4), 9), one, 4, 5, 1000, api.OK)
	for _, f := range []api.Fence{{Next: api.MaxTime}, changed(some(), func(f *api.Fence) { f.Next = api.MaxTime }), changed(many(64), func(f *api.Fence) { f.Next = api.MaxTime })} {
		for _, now := range []int{0, 60, 5000} {
			told(t, api.Fence{}, f, now, 5, 0, api.ErrBound)
		}
	}
}

// P21.3

func TestUse(t *testing.T) {
	for _, f := range append(mayBe(), changed(many(64), func(f *api.Fence) { f.Open[30].Until = 0 })) {
		for _, now := range []int{0, 1, 9, 10, 11, 12, 50, 51, 100, 120, 163, 164, api.MaxTime} {
			for n := -2; n < 140; n++ {
				at := slices.IndexFunc(f.Open, func(open api.Nonce) bool { return open.N == n })
				if at < 0 || f.Open[at].Until < now {
					used(t, api.Fence{}, f, n, now, api.ErrStale)
					continue
				}
				// Others stay, also those that are too old.
				used(t, changed(f, func(f *api.Fence) { f.Open = slices.Delete(f.Open, at, at+1) }), f, n, now, api.OK)
			}
			for _, n := range []int{math.MinInt, 999, 1000, 1001, api.MaxTime - 2, api.MaxTime, math.MaxInt} {
				used(t, api.Fence{}, f, n, now, api.ErrStale)
			}
		}
	}
	for _, open := range some().Open {
		used(t, changed(some(), func(f *api.Fence) {
			f.Open = slices.DeleteFunc(f.Open, func(o api.Nonce) bool { return o == open })
		}), some(), open.N, open.Until, api.OK)
		if open.Until < api.MaxTime {
			used(t, api.Fence{}, some(), open.N, open.Until+1, api.ErrStale)
		}
	}
}

func TestUseOfWhatMayNotBe(t *testing.T) {
	for _, now := range noTimes() {
		for _, f := range mayBe() {
			for _, n := range []int{-1, 0, 3, 7, 18, 1000} {
				used(t, api.Fence{}, f, n, now, api.ErrArg)
			}
		}
	}
	for _, now := range []int{-1, 0, 5, api.MaxTime + 1} {
		for _, n := range []int{-1, 0, 3, 7} {
			for _, f := range mayNot() {
				used(t, api.Fence{}, f, n, now, api.ErrArg)
			}
			for _, f := range tooMany() {
				used(t, api.Fence{}, f, n, now, api.ErrBound)
			}
		}
	}
}

// P21.4

func TestToldOnceAndUsedOnce(t *testing.T) {
	var f api.Fence
	until := make(map[int]int)
	gone := make(map[int]bool)
	for now := range 200 {
		for life := 1; life <= 3+now%5; life++ {
			x, n, e := nonce.Tell(f, now, 2*life)
			if e != api.OK {
				continue
			}
			if _, there := until[n]; there || nonce.Check(x) != api.OK {
				t.Fatalf("%d is told twice, or what is told may not be", n)
			}
			f, until[n] = x, now+2*life
		}
		for n := -1; n <= f.Next; n += 1 + now%3 {
			last, there := until[n]
			x, e := nonce.Use(f, n, now)
			if may := there && !gone[n] && now <= last; may != (e == api.OK) || !may && e != api.ErrStale {
				t.Fatalf("Use(%v, %d, %d) tells %d", f, n, now, e)
			}
			if e != api.OK {
				continue
			}
			f, gone[n] = x, true
			used(t, api.Fence{}, f, n, now, api.ErrStale)
		}
	}
	if f.Next < 300 {
		t.Errorf("only %d were told", f.Next)
	}
}

// R2, R6

func TestNothingIsChangedOrShared(t *testing.T) {
	extra := api.Nonce{N: -5, Until: -5}
	for k, call := range []func(f api.Fence) api.Fence{
		func(f api.Fence) api.Fence { x, _, _ := nonce.Tell(f, 5, 10); return x },
		func(f api.Fence) api.Fence { x, _, _ := nonce.Tell(f, 0, 10); return x },
		func(f api.Fence) api.Fence { x, _ := nonce.Use(f, 3, 5); return x },
		func(f api.Fence) api.Fence { x, _ := nonce.Use(f, 19, 5); return x },
		func(f api.Fence) api.Fence { x, _ := nonce.Use(f, 0, 5); return x },
		func(f api.Fence) api.Fence { return nonce.Trim(f, 5) },
		func(f api.Fence) api.Fence { return nonce.Trim(f, 0) },
		func(f api.Fence) api.Fence { return nonce.Trim(f, 11) },
	} {
		roomy := func() api.Fence {
			f := some()
			f.Open = append(f.Open, extra, extra)[:len(f.Open)]
			return f
		}
		f := roomy()
		x := call(f)
		was := changed(x, func(*api.Fence) {})
		if !same(f, some()) || f.Open[:7][6] != extra {
			t.Errorf("call %d changes what is handed in", k)
		}
		clear(f.Open[:cap(f.Open)])
		if !same(x, was) {
			t.Errorf("what call %d has told changes with what was handed in", k)
		}
		f = roomy()
		x = call(f)
		clear(x.Open[:cap(x.Open)])
		if !same(f, some()) {
			t.Errorf("what was handed in changes with what call %d has told", k)
		}
	}
}

// The chapter's example

func TestExample(t *testing.T) {
	f, n, e := nonce.Tell(api.Fence{}, 5, 10)
	if n != 0 || e != api.OK || !slices.Equal(f.Open, []api.Nonce{{N: 0, Until: 15}}) {
		t.Errorf("Tell is %v, %d, %d", f, n, e)
	}
	used(t, api.Fence{Next: 1}, f, 0, 15, api.OK)
	used(t, api.Fence{}, api.Fence{Next: 1}, 0, 15, api.ErrStale)
	f, n, e = nonce.Tell(f, 6, 2)
	if n != 1 || e != api.OK {
		t.Errorf("Tell is %v, %d, %d", f, n, e)
	}
	used(t, api.Fence{}, f, 1, 9, api.ErrStale)
}
