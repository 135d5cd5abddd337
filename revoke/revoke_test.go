package revoke_test

import (
	"math"
	"slices"
	"testing"

	"greatseal/api"
	"greatseal/cascade"
	"greatseal/revoke"
)

// some are numbers, the first, the last and a middle one of which are revoked.
func some() api.Revs {
	return api.Revs{Live: []int{0, 3, 4, 9, 20, api.MaxTime}, Gone: []int{0, 4, api.MaxTime}}
}

// many are so many numbers, each third one of which is revoked.
func many(number int) api.Revs {
	var r api.Revs
	for k := range number {
		r.Live = append(r.Live, 5*k+1)
		if k%3 == 0 {
			r.Gone = append(r.Gone, 5*k+1)
		}
	}
	return r
}

func same(a, b api.Revs) bool { return slices.Equal(a.Live, b.Live) && slices.Equal(a.Gone, b.Gone) }

func noNumbers() []int {
	return []int{math.MinInt, -2, -1, api.MaxTime + 1, api.MaxTime + 2, math.MaxInt}
}

// mayNot may not be, because of something else than how many they are.
func mayNot() []api.Revs {
	l := []api.Revs{
		{Live: []int{3, 3}}, {Live: []int{4, 3}}, {Live: []int{1, 5, 5}}, {Live: []int{1, 5, 4}}, {Live: []int{1, 3, 2, 4}}, {Live: []int{0, 0}}, {Live: []int{5, 0}}, {Live: []int{api.MaxTime, api.MaxTime}},
		{Live: []int{1, 2, 3}, Gone: []int{2, 2}}, {Live: []int{1, 2, 3}, Gone: []int{2, 1}}, {Live: []int{1, 2, 3}, Gone: []int{1, 3, 2}}, {Live: []int{1, 2, 3}, Gone: []int{1, 2, 3, 3}},
		{Gone: []int{3}}, {Live: []int{3}, Gone: []int{4}}, {Live: []int{3}, Gone: []int{2}}, {Live: []int{1, 3}, Gone: []int{2}}, {Live: []int{1, 3, 5}, Gone: []int{1, 3, 4}}, {Live: []int{1, 3, 5}, Gone: []int{0, 3, 5}}, {Live: []int{1, 3, 5}, Gone: []int{1, 3, 5, 7}}, {Live: []int{1, 3, 5}, Gone: []int{1, 2, 5}},
	}
	for _, n := range noNumbers() {
		l = append(l, api.Revs{Live: []int{n}}, api.Revs{Live: []int{n}, Gone: []int{n}}, api.Revs{Live: []int{3}, Gone: []int{n}})
		if n < 0 {
			l = append(l, api.Revs{Live: []int{n, 3}, Gone: []int{n}})
		} else {
			l = append(l, api.Revs{Live: []int{3, n}, Gone: []int{n}})
		}
	}
	out, other := many(300), many(300)
	out.Live[299] = 0
	other.Gone[99] = math.MaxInt
	return append(l, out, other)
}

func mayBe() []api.Revs {
	return []api.Revs{{}, {Live: []int{}, Gone: []int{}}, {Live: []int{0}}, {Live: []int{0}, Gone: []int{0}}, {Live: []int{api.MaxTime}, Gone: []int{api.MaxTime}}, {Live: []int{5, 6, 7}, Gone: []int{5, 6, 7}}, {Live: []int{5, 6, 7}, Gone: []int{6}}, some(), many(255), many(256)}
}

// P27.1

func checked(t *testing.T, want api.Errno, r api.Revs) {
	t.Helper()
	if e := revoke.Check(r); e != want {
		t.Errorf("Check(%v) is %d, not %d", r, e, want)
	}
	if want == api.OK {
		return
	}
	// Whoever is handed such lists looks at them first, whatever else is wrong.
	for _, serial := range []int{-1, 3, 1} {
		added(t, r, serial, api.Revs{}, want)
		revoked(t, r, serial, api.Revs{}, want)
	}
	for _, day := range []int{-1, 0, 7} {
		if c, e := revoke.Day(r, day); !cascade.Same(c, api.Cascade{}) || e != want {
			t.Errorf("Day(%v, %d) is %v, %d, not %d", r, day, c, e, want)
		}
	}
}

func TestCheck(t *testing.T) {
	for _, r := range mayBe() {
		checked(t, api.OK, r)
	}
	for _, r := range mayNot() {
		checked(t, api.ErrArg, r)
	}
	for _, n := range []int{257, 258, 1000} {
		checked(t, api.ErrBound, many(n))
		checked(t, api.ErrBound, api.Revs{Live: many(n).Live})
	}
}

func TestGone(t *testing.T) {
	for _, r := range append(append(mayBe(), mayNot()...), many(300), api.Revs{Gone: []int{9, 2, 2, -5, 7}}) {
		for _, serial := range []int{math.MinInt, -5, -2, -1, 0, 1, 2, 3, 4, 5, 6, 7, 9, 11, 16, 20, 1276, api.MaxTime, api.MaxTime + 1, math.MaxInt} {
			want := false
			for _, gone := range r.Gone {
				want = want || gone == serial
			}
			if is := revoke.Gone(r, serial); is != want {
				t.Errorf("Gone(%v, %d) is %t", r, serial, is)
			}
		}
	}
}

// P27.2

func added(t *testing.T, r api.Revs, serial int, want api.Revs, wantE api.Errno) {
	t.Helper()
	if x, e := revoke.Add(r, serial); !same(x, want) || e != wantE {
		t.Errorf("Add(%v, %d) is %v, %d, not %v, %d", r, serial, x, e, want, wantE)
	}
}

func revoked(t *testing.T, r api.Revs, serial int, want api.Revs, wantE api.Errno) {
	t.Helper()
	if x, e := revoke.Revoke(r, serial); !same(x, want) || e != wantE {
		t.Errorf("Revoke(%v, %d) is %v, %d, not %v, %d", r, serial, x, e, want, wantE)
	}
}

// plus are numbers with one more, in order.
func plus(l []int, n int) []int { return slices.Sorted(slices.Values(append(slices.Clone(l), n))) }

func TestAdd(t *testing.T) {
	for _, r := range mayBe() {
		for _, serial := range []int{0, 1, 2, 3, 4, 5, 8, 9, 10, 19, 20, 21, 640, 1275, 1276, 1277, api.MaxTime - 1, api.MaxTime} {
			switch {
			case slices.Contains(r.Live, serial):
				added(t, r, serial, api.Revs{}, api.ErrState)
			case len(r.Live) == 256:
				added(t, r, serial, api.Revs{}, api.ErrBound)
			default:
				added(t, r, serial, api.Revs{Live: plus(r.Live, serial), Gone: r.Gone}, api.OK)
			}
		}
		for _, serial := range noNumbers() {
			added(t, r, serial, api.Revs{}, api.ErrArg)
		}
	}
}

func TestRevoke(t *testing.T) {
	for _, r := range mayBe() {
		for _, serial := range append(slices.Clone(r.Live), 2, 8, 10, 640, 1277, api.MaxTime-1, -1, math.MinInt, api.MaxTime+1, math.MaxInt) {
			switch {
			case !slices.Contains(r.Live, serial):
				revoked(t, r, serial, api.Revs{}, api.ErrNone)
			case slices.Contains(r.Gone, serial):
				revoked(t, r, serial, api.Revs{}, api.ErrGone)
			default:
				revoked(t, r, serial, api.Revs{Live: r.Live, Gone: plus(r.Gone, serial)}, api.OK)
			}
		}
	}
}

// P27.3

func TestDay(t *testing.T) {
	for _, r := range append(mayBe(), api.Revs{Live: many(256).Live}, api.Revs{Live: many(256).Live, Gone: many(256).Live}) {
		var left []int
		for _, serial := range r.Live {
			if !slices.Contains(r.Gone, serial) {
				left = append(left, serial)
			}
		}
		for _, day := range []int{0, 1, 77, 1<<36 - 1} {
			want, wantE := cascade.Make(r.Gone, left, day)
			c, e := revoke.Day(r, day)
			if !cascade.Same(c, want) || e != api.OK || wantE != api.OK {
				t.Errorf("Day(%v, %d) is %v, %d", r, day, c, e)
			}
		}
		for _, day := range []int{math.MinInt, -1, 1 << 36, math.MaxInt} {
			if c, e := revoke.Day(r, day); !cascade.Same(c, api.Cascade{}) || e != api.ErrArg {
				t.Errorf("Day(%v, %d) is %v, %d", r, day, c, e)
			}
		}
	}
}

// P27.4

func TestWhatIsRevokedStaysSo(t *testing.T) {
	var r api.Revs
	gone := make(map[int]bool)
	for day := range 80 {
		x, e := revoke.Add(r, day*37%101)
		if e != api.OK {
			t.Fatalf("Add tells %d", e)
		}
		r = x
		serial := r.Live[day*7%len(r.Live)]
		if x, e := revoke.Revoke(r, serial); day%2 == 0 && e == api.OK {
			r, gone[serial] = x, true
		}
		c, e := revoke.Day(r, day)
		if e != api.OK || len(r.Live) != day+1 || len(r.Gone) != len(gone) {
			t.Fatalf("Day(%v) tells %d", r, e)
		}
		for _, serial := range r.Live {
			if cascade.Has(c, serial) != gone[serial] || revoke.Gone(r, serial) != gone[serial] {
				t.Errorf("on the day %d the cascade tells %t of %d", day, cascade.Has(c, serial), serial)
			}
		}
	}
	if len(gone) < 15 {
		t.Errorf("only %d were revoked", len(gone))
	}
}

// R2

func TestNothingIsChangedOrShared(t *testing.T) {
	roomy := func() api.Revs {
		r := some()
		r.Live, r.Gone = slices.Grow(r.Live, 9), slices.Grow(r.Gone, 9)
		return r
	}
	spoil := func(r api.Revs) {
		clear(r.Live[:cap(r.Live)])
		clear(r.Gone[:cap(r.Gone)])
	}
	for k, call := range []func(r api.Revs) api.Revs{
		func(r api.Revs) api.Revs { x, _ := revoke.Add(r, 5); return x },
		func(r api.Revs) api.Revs { x, _ := revoke.Add(r, 21); return x },
		func(r api.Revs) api.Revs { x, _ := revoke.Revoke(r, 3); return x },
		func(r api.Revs) api.Revs { x, _ := revoke.Revoke(r, 20); return x },
	} {
		r := roomy()
		x := call(r)
		was := api.Revs{Live: slices.Clone(x.Live), Gone: slices.Clone(x.Gone)}
		if !same(r, some()) || r.Live[:7][6] != 0 || r.Gone[:4][3] != 0 {
			t.Errorf("call %d changes what is handed in", k)
		}
		spoil(r)
		if !same(x, was) {
			t.Errorf("what call %d has told changes with what was handed in", k)
		}
		r = roomy()
		spoil(call(r))
		if !same(r, some()) {
			t.Errorf("what was handed in changes with what call %d has told", k)
		}
	}
	r := roomy()
	revoke.Day(r, 5)
	if !same(r, some()) || r.Live[:7][6] != 0 {
		t.Errorf("Day changes what is handed in")
	}
}

// The chapter's example

func TestExample(t *testing.T) {
	var r api.Revs
	for _, serial := range []int{5, 9, 3} {
		r, _ = revoke.Add(r, serial)
	}
	r, e := revoke.Revoke(r, 5)
	if !same(r, api.Revs{Live: []int{3, 5, 9}, Gone: []int{5}}) || e != api.OK {
		t.Fatalf("Revoke is %v, %d", r, e)
	}
	for day := range 50 {
		c, e := revoke.Day(r, day)
		if e != api.OK || !cascade.Has(c, 5) || cascade.Has(c, 3) || cascade.Has(c, 9) {
			t.Errorf("the cascade of the day %d is %v, %d", day, c, e)
		}
	}
}
