package monitor_test

import (
	"bytes"
	"math"
	"math/rand"
	"slices"
	"strconv"
	"testing"

	"greatseal/api"
	"greatseal/cert"
	"greatseal/issue"
	"greatseal/logd"
	"greatseal/merkle"
	"greatseal/monitor"
)

// site is a certificate for names, with a key, from a time on.
func site(serial int, key uint64, from int, names ...string) api.Cert {
	return api.Cert{Serial: serial, Issuer: "greatseal", Key: key, Names: names, From: from, Until: from + 9}
}

func authority() api.Cert {
	return api.Cert{Serial: 7, Issuer: "greatseal", Subject: "other", Key: 16, From: 1, Until: 9, Ca: true, Depth: 2, Permit: []string{"*.a"}}
}

func pre(c api.Cert) []byte {
	b, _ := cert.Pre(c)
	return b
}

func full(c api.Cert) []byte {
	b, _ := cert.Put(c)
	return b
}

func body(c api.Cert) []byte {
	b, _ := cert.Body(c)
	return b
}

func leaf(body []byte, at int) api.Leaf { return api.Leaf{Body: body, At: at} }

// some is a log with pres, and with bodies that are none; of some of both the second view shows something else.
func some() api.Log {
	x := site(1, 4, 5, "x.a")
	return api.Log{
		Id: 3, Key: 77, Delay: 20,
		L:    []api.Leaf{leaf(pre(x), 1), leaf(pre(site(2, 16, 0, "x.a", "y.b")), 2), leaf(body(x), 3), leaf([]byte{0}, 4), leaf(pre(authority()), 5), leaf(full(x), 6), leaf(append(pre(x), 0), 7), leaf(append([]byte{0}, pre(x)...), 8), leaf(pre(site(9, 4, api.MaxTime-9, "z")), 9)},
		Hide: []int{1, 2, 4, 7},
		Wait: []api.Leaf{leaf(pre(site(3, 4, 5, "w.a")), 11)},
	}
}

func sameCerts(a, b []api.Cert) bool { return slices.EqualFunc(a, b, cert.Same) }

// P30.1

// certs are those of a view, as the chapter says.
func certs(l api.Log, view int) []api.Cert {
	var all []api.Cert
	for place, leaf := range l.L {
		b := leaf.Body
		if view == 1 && slices.Contains(l.Hide, place) {
			b = append([]byte{0}, b...)
		}
		c, e := cert.GetPre(b)
		if e != api.OK {
			c = api.Cert{}
		}
		all = append(all, c)
	}
	return all
}

func seen(t *testing.T, what string, l api.Log, view int, want []api.Cert) {
	t.Helper()
	if x, e := monitor.Certs(l, view); !sameCerts(x, want) || e != api.OK {
		t.Errorf("%s: Certs of the view %d is %v, %d, not %v", what, view, x, e, want)
	}
}

func TestCerts(t *testing.T) {
	x, other, last := site(1, 4, 5, "x.a"), site(2, 16, 0, "x.a", "y.b"), site(9, 4, api.MaxTime-9, "z")
	none := api.Cert{}
	seen(t, "some", some(), 0, []api.Cert{x, other, none, none, authority(), none, none, none, last})
	seen(t, "some", some(), 1, []api.Cert{x, none, none, none, none, none, none, none, last})
	for _, view := range []int{0, 1} {
		seen(t, "some, as the chapter says", some(), view, certs(some(), view))
		seen(t, "a log that is empty", api.Log{Key: 1}, view, nil)
		waits := api.Log{Key: 1, Wait: some().L}
		seen(t, "a log in which all waits", waits, view, nil)
		merged, _ := logd.Merge(some())
		seen(t, "a log that has merged", merged, view, certs(merged, view))
		hidden, _ := logd.Hide(merged)
		seen(t, "a log that hides its last place, too", hidden, view, certs(hidden, view))
		shown := some()
		shown.Hide = nil
		seen(t, "a log that hides nothing", shown, view, certs(some(), 0))
		shown.Hide = []int{0, 1, 2, 3, 4, 5, 6, 7, 8}
		want := certs(some(), 0)
		if view == 1 {
			want = make([]api.Cert, 9)
		}
		seen(t, "a log that hides all", shown, view, want)
	}
}

// TestCertsOfWhatIsCutShort: a pre without its last byte, which is 0, is no certificate's, also where something else is shown.
func TestCertsOfWhatIsCutShort(t *testing.T) {
	b := pre(site(1, 4, 5, "x.a"))
	l := api.Log{Key: 1, L: []api.Leaf{leaf(b[:len(b)-1], 1)}, Hide: []int{0}}
	for view := range 2 {
		seen(t, "cut short", l, view, make([]api.Cert, 1))
	}
}

func TestCertsOfAFullLog(t *testing.T) {
	l := api.Log{Key: 1, Hide: []int{0, 100, 255}}
	for k := range 256 {
		l.L = append(l.L, leaf(pre(site(k, 4, k, "n"+strconv.Itoa(k))), k))
	}
	for view := range 2 {
		seen(t, "a full log", l, view, certs(l, view))
	}
	l.Wait = []api.Leaf{leaf([]byte("more"), 1)}
	for _, view := range []int{0, 1, 2} {
		if x, e := monitor.Certs(l, view); len(x) != 0 || e != api.ErrBound {
			t.Errorf("Certs of more than a log may have is %v, %d", x, e)
		}
	}
}

func TestCertsOfWhatMayNotBe(t *testing.T) {
	wrong := func(change func(l *api.Log)) api.Log {
		l := some()
		change(&l)
		return l
	}
	for k, l := range []api.Log{
		{},
		wrong(func(l *api.Log) { l.Id = -1 }),
		wrong(func(l *api.Log) { l.Key = api.R }),
		wrong(func(l *api.Log) { l.Delay = 1001 }),
		wrong(func(l *api.Log) { l.L[0].Body = nil }),
		wrong(func(l *api.Log) { l.L[1] = l.L[0] }),
		wrong(func(l *api.Log) { l.Wait[0].At = -1 }),
		wrong(func(l *api.Log) { l.Hide = []int{9} }),
	} {
		// Also of a view that is none.
		for _, view := range []int{0, 1, 2, -1} {
			if x, e := monitor.Certs(l, view); len(x) != 0 || e != api.ErrArg {
				t.Errorf("%d: Certs is %v, %d", k, x, e)
			}
		}
	}
	for _, view := range []int{math.MinInt, -1, 2, 3, math.MaxInt} {
		if x, e := monitor.Certs(some(), view); len(x) != 0 || e != api.ErrLog {
			t.Errorf("Certs of the view %d is %v, %d", view, x, e)
		}
	}
}

// P30.2

// strange are the places, as the chapter says.
func strange(certs []api.Cert, books []api.Booked) []int {
	var all []int
	for at, c := range certs {
		all = append(all, at)
		unbooked := false
		for _, name := range c.Names {
			booked := false
			for _, b := range books {
				booked = booked || slices.Contains(b.Names, name) && b.Key == c.Key && b.At <= c.From
			}
			unbooked = unbooked || !booked
		}
		if !unbooked {
			all = all[:len(all)-1]
		}
	}
	return all
}

func finds(t *testing.T, what string, certs []api.Cert, books []api.Booked, want ...int) {
	t.Helper()
	if x := monitor.Strange(certs, books); !slices.Equal(x, want) {
		t.Errorf("%s: Strange is %v, not %v", what, x, want)
	}
	if x := strange(certs, books); !slices.Equal(x, want) {
		t.Errorf("%s: by the chapter's words it is %v, not %v", what, x, want)
	}
}

func TestStrange(t *testing.T) {
	x := []api.Cert{site(1, 4, 5, "x.a")}
	book := func(key uint64, at int, names ...string) api.Booked {
		return api.Booked{Who: "ann", Names: names, Key: key, At: at}
	}
	finds(t, "nothing booked", x, nil, 0)
	for _, at := range []int{math.MinInt, -1, 0, 4, 5} {
		finds(t, "booked in time", x, []api.Booked{book(4, at, "x.a")})
	}
	for _, at := range []int{6, 7, math.MaxInt} {
		finds(t, "booked too late", x, []api.Booked{book(4, at, "x.a")}, 0)
		finds(t, "booked too late, and in time", x, []api.Booked{book(4, at, "x.a"), book(4, 5, "x.a")})
		finds(t, "booked in time, and too late", x, []api.Booked{book(4, 5, "x.a"), book(4, at, "x.a")})
	}
	for _, key := range []uint64{0, 3, 5, 16, math.MaxUint64} {
		finds(t, "with another key", x, []api.Booked{book(key, 3, "x.a")}, 0)
		finds(t, "with another key in time, with its own too late", x, []api.Booked{book(key, 3, "x.a"), book(4, 6, "x.a")}, 0)
	}
	for _, name := range []string{"", "a", "*.a", "x.a.", "X.a", "y.x.a", "x.b"} {
		finds(t, "for another name", x, []api.Booked{book(4, 3, name)}, 0)
		finds(t, "for another name in time, for its own too late", x, []api.Booked{book(4, 3, name), book(4, 6, "x.a")}, 0)
	}
	finds(t, "booked without names", x, []api.Booked{book(4, 3)}, 0)
	finds(t, "booked among others", x, []api.Booked{book(4, 3, "a", "b", "x.a")})
	finds(t, "booked by anybody", x, []api.Booked{{Names: []string{"x.a"}, Key: 4, At: 3}})
}

func TestStrangeOfSeveralNames(t *testing.T) {
	three := []api.Cert{site(1, 4, 5, "x", "y", "z")}
	one := func(at int, names ...string) api.Booked { return api.Booked{Names: names, Key: 4, At: at} }
	finds(t, "all at once", three, []api.Booked{one(5, "z", "y", "x")})
	finds(t, "one by one", three, []api.Booked{one(5, "y"), one(0, "z"), one(3, "x")})
	finds(t, "without the first", three, []api.Booked{one(5, "y", "z")}, 0)
	finds(t, "without the second", three, []api.Booked{one(5, "x", "z")}, 0)
	finds(t, "without the last", three, []api.Booked{one(5, "x", "y")}, 0)
	finds(t, "one alone", three, []api.Booked{one(5, "y")}, 0)
	finds(t, "one too late", three, []api.Booked{one(5, "x", "z"), one(6, "y")}, 0)
	finds(t, "one with another key", three, []api.Booked{one(5, "x", "z"), {Names: []string{"y"}, Key: 5}}, 0)
}

func TestStrangeOfMany(t *testing.T) {
	finds(t, "no certificates", nil, []api.Booked{{Names: []string{"x"}, Key: 4}})
	finds(t, "certificates without names", []api.Cert{{}, authority(), {Key: 4, From: -5}}, nil)
	// Of any of both: whatever numbers and names they have.
	odd := []api.Cert{{Names: []string{""}, From: math.MinInt}, {Names: []string{"a", "a"}, Key: math.MaxUint64, From: math.MaxInt}, {Names: []string{"a"}, From: -1}}
	finds(t, "certificates that may not be, not booked", odd, nil, 0, 1, 2)
	finds(t, "certificates that may not be, booked", odd, []api.Booked{{Names: []string{"", "a"}, At: math.MinInt}, {Names: []string{"a"}, Key: math.MaxUint64, At: math.MaxInt}})
	chance := rand.New(rand.NewSource(30))
	texts := []string{"a", "b", "c", "a.b"}
	some := func() []string {
		var l []string
		for range chance.Intn(3) {
			l = append(l, texts[chance.Intn(len(texts))])
		}
		return l
	}
	for range 2000 {
		var certs []api.Cert
		var books []api.Booked
		for range chance.Intn(6) {
			certs = append(certs, api.Cert{Names: some(), Key: uint64(chance.Intn(2)), From: chance.Intn(4)})
		}
		for range chance.Intn(8) {
			books = append(books, api.Booked{Names: some(), Key: uint64(chance.Intn(2)), At: chance.Intn(5)})
		}
		finds(t, "by chance", certs, books, strange(certs, books)...)
	}
}

// P30.3

func sum(n int) api.Sum { return api.Sum{uint64(n), uint64(n) << 32} }

func misses(t *testing.T, what string, proms []api.Promise, h api.Head, leaves []api.Sum, k api.Key, want ...int) {
	t.Helper()
	if x := monitor.Missing(proms, h, leaves, k); !slices.Equal(x, want) {
		t.Errorf("%s: Missing is %v, not %v", what, x, want)
	}
}

func TestMissing(t *testing.T) {
	k := api.Key{Log: 3, Key: 4, Delay: 5}
	p := api.Promise{Log: 3, At: 2, Leaf: sum(7)}
	one := func(p api.Promise) []api.Promise { return []api.Promise{p} }
	head := func(at int) api.Head { return api.Head{Log: 3, At: at} }
	for at := range 8 {
		misses(t, "not due", one(p), head(at), nil, k)
	}
	for _, at := range []int{8, 9, 100, math.MaxInt} {
		misses(t, "due", one(p), head(at), nil, k, 0)
		misses(t, "kept", one(p), head(at), []api.Sum{sum(7)}, k)
		misses(t, "kept at the end", one(p), head(at), []api.Sum{sum(1), sum(2), sum(7)}, k)
		for _, other := range []api.Sum{{}, sum(8), {7, 0}, {0, 7 << 32}, {7 << 32, 7}, {7, 7<<32 + 1}, {6, 7 << 32}} {
			misses(t, "another leaf", one(p), head(at), []api.Sum{other}, k, 0)
		}
		for _, log := range []int{math.MinInt, -1, 0, 2, 4, math.MaxInt} {
			q := p
			q.Log = log
			misses(t, "of another log", one(q), head(at), nil, k)
			misses(t, "head of another log", one(p), api.Head{Log: log, At: at}, nil, k)
			misses(t, "key of another log", one(p), head(at), nil, api.Key{Log: log, Key: 4, Delay: 5})
			misses(t, "head and key of another log", one(p), api.Head{Log: log, At: at}, nil, api.Key{Log: log, Key: 4, Delay: 5})
			misses(t, "promise and key of another log", one(q), head(at), nil, api.Key{Log: log, Key: 4, Delay: 5})
			misses(t, "promise and head of another log", one(q), api.Head{Log: log, At: at}, nil, k)
			misses(t, "all of that log", one(q), api.Head{Log: log, At: at}, nil, api.Key{Log: log, Key: 4, Delay: 5}, 0)
		}
	}
	// Neither a signature, nor a root, nor a size, nor a key is looked at.
	q := p
	q.Sig = api.Sig{E: math.MaxUint64, S: 1}
	misses(t, "due", one(q), api.Head{Log: 3, At: 8, Size: -7, Root: sum(7), Sig: api.Sig{S: 5}}, nil, api.Key{Log: 3, Delay: 5}, 0)
	misses(t, "kept", one(q), api.Head{Log: 3, At: 8, Size: -7, Root: sum(7), Sig: api.Sig{S: 5}}, []api.Sum{sum(7)}, api.Key{Log: 3, Delay: 5})
}

func TestMissingGoesRound(t *testing.T) {
	for _, x := range []struct {
		at, delay, now int
		due            bool
	}{
		{math.MaxInt, 0, math.MaxInt, false}, {math.MaxInt, 1, math.MinInt, false}, {math.MaxInt, 1, math.MinInt + 1, true}, {math.MaxInt, 1, 0, true}, {math.MaxInt, 1, math.MaxInt, true},
		{math.MaxInt, math.MaxInt, -2, false}, {math.MaxInt, math.MaxInt, -1, true}, {math.MinInt, -1, math.MaxInt, false}, {math.MinInt, math.MinInt, 0, false}, {math.MinInt, math.MinInt, 1, true},
		{-5, -5, -10, false}, {-5, -5, -9, true}, {0, 0, 0, false}, {0, 0, 1, true}, {1, 0, 1, false}, {0, 1, 1, false}, {1, math.MaxInt, math.MinInt, false}, {1, math.MaxInt, math.MinInt + 1, true},
	} {
		p, h, k := api.Promise{Log: 1, At: x.at, Leaf: sum(2)}, api.Head{Log: 1, At: x.now}, api.Key{Log: 1, Delay: x.delay}
		var want []int
		if x.due {
			want = []int{0}
		}
		misses(t, "due", []api.Promise{p}, h, []api.Sum{sum(1)}, k, want...)
		misses(t, "kept", []api.Promise{p}, h, []api.Sum{sum(2)}, k)
	}
}

func TestMissingOfMany(t *testing.T) {
	chance := rand.New(rand.NewSource(31))
	for range 2000 {
		var proms []api.Promise
		var leaves []api.Sum
		for range chance.Intn(8) {
			proms = append(proms, api.Promise{Log: chance.Intn(2), At: chance.Intn(6), Leaf: sum(chance.Intn(4))})
		}
		for range chance.Intn(4) {
			leaves = append(leaves, sum(chance.Intn(4)))
		}
		h, k := api.Head{Log: chance.Intn(2), At: chance.Intn(8)}, api.Key{Log: chance.Intn(2), Delay: chance.Intn(3)}
		var want []int
		for at, p := range proms {
			if p.Log == h.Log && p.Log == k.Log && p.At+k.Delay < h.At && !slices.Contains(leaves, p.Leaf) {
				want = append(want, at)
			}
		}
		misses(t, "by chance", proms, h, leaves, k, want...)
	}
	misses(t, "no promises", nil, api.Head{}, nil, api.Key{})
}

// P30.4

// TestWhatIsTakenInIsSeen: certificates are promised by a log that merges in time, in which a place is hidden in the end.
func TestWhatIsTakenInIsSeen(t *testing.T) {
	l, _ := logd.New(0, []byte("log"), 4)
	other, _ := logd.New(1, []byte("other"), 4)
	key, _ := logd.Public(l)
	var books []api.Booked
	var proms []api.Promise
	var made []api.Cert
	for now := range 24 {
		wish := api.Wish{Names: []string{"n" + strconv.Itoa(now), "all"}, Key: 4, Life: 9}
		books = append(books, api.Booked{Who: "ann", Names: wish.Names, Key: wish.Key, At: now})
		draft, _ := issue.Draft(wish, now, now, "greatseal")
		logs, d, e := issue.Promises([]api.Log{l, other}, draft, now)
		if e != api.OK {
			t.Fatal(e)
		}
		l, other = logs[0], logs[1]
		proms, made = append(proms, d.Proms...), append(made, draft)
		if now%4 == 0 {
			l, _ = logd.Merge(l)
		}
		for view := range 2 {
			leaves, _ := logd.Leaves(l, view)
			h, _ := logd.Head(l, view, len(leaves), now)
			misses(t, "a log that takes in in time", proms, h, leaves, key)
			certs, e := monitor.Certs(l, view)
			if e != api.OK || !sameCerts(certs, made[:len(leaves)]) {
				t.Errorf("Certs of the view %d is %v, %d", view, certs, e)
			}
			finds(t, "all was booked", certs, books)
		}
	}
	hidden, _ := logd.Hide(l)
	certs, _ := monitor.Certs(hidden, 1)
	last := len(hidden.L) - 1
	if want := append(slices.Clone(made[:last]), api.Cert{}); !sameCerts(certs, want) {
		t.Errorf("Certs of the view in which one is hidden is %v", certs)
	}
	leaves, _ := logd.Leaves(hidden, 1)
	h, _ := logd.Head(hidden, 1, len(leaves), 25)
	misses(t, "in the view in which one is hidden", proms, h, leaves, key, 2*last)
	h.At = 24
	misses(t, "to the moment", proms, h, leaves, key)
	finds(t, "somebody has booked another name", made, append(books[:7:7], books[8:]...), 7)
}

// R2

func TestNothingIsChangedOrShared(t *testing.T) {
	l := some()
	x, _ := monitor.Certs(l, 1)
	y, _ := monitor.Certs(l, 0)
	if was := some(); !slices.EqualFunc(l.L, was.L, func(a, b api.Leaf) bool { return bytes.Equal(a.Body, b.Body) && a.At == b.At }) || !slices.Equal(l.Hide, was.Hide) {
		t.Errorf("Certs changes the log")
	}
	for _, leaf := range l.L {
		clear(leaf.Body)
	}
	clear(l.L)
	clear(l.Hide)
	if !sameCerts(x, certs(some(), 1)) || !sameCerts(y, certs(some(), 0)) {
		t.Errorf("what Certs has told changes with the log")
	}
	l = some()
	y, _ = monitor.Certs(l, 0)
	for _, c := range y {
		clear(c.Names)
		clear(c.Permit)
	}
	clear(y)
	if x, _ = monitor.Certs(l, 0); !sameCerts(x, certs(some(), 0)) {
		t.Errorf("the log changes with what Certs has told")
	}
	cs, books := []api.Cert{site(1, 4, 5, "x", "y")}, []api.Booked{{Names: []string{"y", "x"}, Key: 4, At: 6}, {Names: []string{"y"}, Key: 4}}
	monitor.Strange(cs, books)
	if cs[0].Names[0] != "x" || books[0].Names[0] != "y" || books[0].At != 6 || books[1].At != 0 {
		t.Errorf("Strange changes what it is handed")
	}
	proms, leaves := []api.Promise{{Leaf: sum(3)}, {Leaf: sum(1)}}, []api.Sum{sum(2), sum(1)}
	monitor.Missing(proms, api.Head{At: 9}, leaves, api.Key{})
	if proms[0].Leaf != sum(3) || leaves[0] != sum(2) {
		t.Errorf("Missing changes what it is handed")
	}
}

// The chapter's example

func TestExample(t *testing.T) {
	l, _ := logd.New(0, []byte("seed"), 5)
	l, p, _ := logd.Add(l, pre(site(1, 4, 5, "x.a")), 5)
	l, e := logd.Merge(l)
	if e != api.OK || p.Leaf != merkle.Leaf(pre(site(1, 4, 5, "x.a"))) {
		t.Fatal(e)
	}
	certs, e := monitor.Certs(l, 0)
	if e != api.OK {
		t.Fatal(e)
	}
	book := func(key uint64, at int) []api.Booked {
		return []api.Booked{{Who: "ann", Names: []string{"x.a"}, Key: key, At: at}}
	}
	finds(t, "booked at 3", certs, book(4, 3))
	finds(t, "booked at 6", certs, book(4, 6), 0)
	finds(t, "booked with another key", certs, book(16, 3), 0)
}
