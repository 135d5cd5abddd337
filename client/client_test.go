package client_test

import (
	"bytes"
	"math"
	"slices"
	"strings"
	"testing"

	"greatseal/api"
	"greatseal/cascade"
	"greatseal/cert"
	"greatseal/client"
	"greatseal/gossip"
	"greatseal/logd"
	"greatseal/merkle"
	"greatseal/sign"
)

func secret(who string) uint64 { return sign.Secret([]byte(who)) }

func public(who string) uint64 {
	key, _ := sign.Public(secret(who))
	return key
}

// signed is c with the signature of whoever is called so.
func signed(c api.Cert, by string) api.Cert {
	body, _ := cert.Body(c)
	c.Sig, _ = sign.Sign(secret(by), body)
	return c
}

func authority(issuer, subject string) api.Cert {
	return signed(api.Cert{Serial: 50, Issuer: issuer, Subject: subject, Key: public(subject), From: 0, Until: 500, Ca: true, Depth: 2}, issuer)
}

// site is a certificate that a middle one issues: the logs promise it, and it is signed then.
func site(serial int, logs ...int) api.Cert {
	c := api.Cert{Serial: serial, Issuer: "middle", Key: 4, Names: []string{"a.b", "c.b"}, From: 10, Until: 90}
	pre, _ := cert.Pre(c)
	for _, id := range logs {
		_, p, _ := logd.Add(logOf(id), pre, 12)
		c.Proms = append(c.Proms, p)
	}
	return signed(c, "middle")
}

func logOf(id int) api.Log {
	l, _ := logd.New(id, []byte{byte(id)}, 20)
	return l
}

func keyOf(id int) api.Key {
	key, _ := logd.Public(logOf(id))
	return key
}

// holding is a log with some other leaves, in which a certificate stands at 2, behind which there are two more.
func holding(id int, c api.Cert) api.Log {
	l := logOf(id)
	pre, _ := cert.Pre(c)
	for _, body := range [][]byte{[]byte("one"), []byte("two"), pre, []byte("four"), []byte("five")} {
		l, _, _ = logd.Add(l, body, 12)
	}
	l, _ = logd.Merge(l)
	return l
}

func headOf(l api.Log, size, now int) api.Head {
	h, _ := logd.Head(l, 0, size, now)
	return h
}

func placeOf(l api.Log, at, size int) api.Place {
	p, _ := logd.Prove(l, 0, at, size)
	return p
}

// daily is the cascade of a day, by which the serial numbers 2 and 9 are revoked.
func daily(day int) api.Cascade {
	c, _ := cascade.Make([]int{2, 9}, []int{1, 3, 4, 5}, day)
	return c
}

func pooled(l ...api.Head) api.Pool {
	var p api.Pool
	for _, h := range l {
		p = gossip.Merge(p, api.Pool{L: []api.Head{h}})
	}
	return p
}

// asked is what is asked of a client.
type asked struct {
	c    api.Client
	o    api.Offer
	name string
	now  int
}

// right is accepted: the logs 0, 2 and 5 have promised it, and the client holds heads of the first two, and knows the log 7, too.
func right() asked { return of(site(1, 0, 2, 5)) }

// of is the same of another certificate.
func of(c api.Cert) asked {
	zero, two := holding(0, c), holding(2, c)
	return asked{
		c: api.Client{
			Who: "anna", Roots: []api.Cert{authority("other", "other"), authority("root", "root")}, Logs: []api.Key{keyOf(0), keyOf(2), keyOf(5), keyOf(7)},
			Pool: pooled(headOf(zero, 5, 20), headOf(zero, 3, 15), headOf(two, 4, 20)), Cascade: daily(7), View: 1,
		},
		o:    api.Offer{Path: []api.Cert{c, authority("root", "middle")}, Where: []api.Place{placeOf(zero, 2, 5)}},
		name: "c.b", now: 50,
	}
}

func (a asked) is(t *testing.T, what string, want api.Errno) {
	t.Helper()
	if e := client.Accept(a.c, a.o, a.name, a.now); e != want {
		t.Errorf("%s: Accept(%v, %v, %q, %d) is %d, not %d", what, a.c, a.o, a.name, a.now, e, want)
	}
}

func copied(c api.Client) api.Client {
	c.Roots, c.Logs, c.Pool.L, c.Cascade.Levels = slices.Clone(c.Roots), slices.Clone(c.Logs), slices.Clone(c.Pool.L), slices.Clone(c.Cascade.Levels)
	for k, root := range c.Roots {
		c.Roots[k].Permit, c.Roots[k].Proms, c.Roots[k].Names = slices.Clone(root.Permit), slices.Clone(root.Proms), slices.Clone(root.Names)
	}
	for k, level := range c.Cascade.Levels {
		c.Cascade.Levels[k].B = bytes.Clone(level.B)
	}
	return c
}

func changed(c api.Client, change func(c *api.Client)) api.Client {
	c = copied(c)
	change(&c)
	return c
}

func same(a, b api.Client) bool {
	return a.Who == b.Who && slices.EqualFunc(a.Roots, b.Roots, cert.Same) && slices.Equal(a.Logs, b.Logs) && slices.Equal(a.Pool.L, b.Pool.L) && cascade.Same(a.Cascade, b.Cascade) && a.View == b.View
}

func noNumbers() []int {
	return []int{math.MinInt, -2, -1, api.MaxTime + 1, api.MaxTime + 2, math.MaxInt}
}

func noTexts() []string {
	return []string{"", " ", "a b", "a\x7f", "\x20a", "é", strings.Repeat("a", 65), "\n"}
}

// noKeys are none of the group: 2 is no square, and of a number and what is missing from it to Q just one is.
func noKeys() []uint64 {
	return []uint64{0, 2, api.Q - 1, api.Q - 4, api.Q, math.MaxUint64}
}

func noViews() []int { return []int{math.MinInt, -1, 2, 3, math.MaxInt} }

func logsOf(number int) []api.Key {
	var l []api.Key
	for k := range number {
		l = append(l, api.Key{Log: 3 * k, Key: 4})
	}
	return l
}

// P29.1

func checked(t *testing.T, what string, want api.Errno, c api.Client) {
	t.Helper()
	if e := client.Check(c); e != want {
		t.Errorf("%s: Check(%v) is %d, not %d", what, c, e, want)
	}
	if want == api.OK {
		return
	}
	// Whoever is handed a client looks at it first, whatever else is wrong.
	x, e := client.Take(c, api.Head{Log: -1})
	y, f := client.Day(c, api.Cascade{Day: -1})
	if e != want || f != want || !same(x, api.Client{}) || !same(y, api.Client{}) {
		t.Errorf("%s: Take and Day are %v, %d, %v, %d", what, x, e, y, f)
	}
	a := right()
	a.c, a.now = c, -1
	a.is(t, what, want)
}

// wrongForms are clients that may not be, because of what they are themselves.
func wrongForms() []func(c *api.Client) {
	l := []func(c *api.Client){
		func(c *api.Client) { c.Roots = nil },
		func(c *api.Client) { c.Roots = slices.Repeat(c.Roots[:1], 9) },
		func(c *api.Client) { c.Roots[0] = site(1) },
		func(c *api.Client) { c.Roots[1] = site(1, 0, 2) },
		func(c *api.Client) { c.Roots[1] = api.Cert{} },
		func(c *api.Client) { c.Roots[0].Serial = -1 },
		func(c *api.Client) { c.Roots[1].Ca = false },
		func(c *api.Client) { c.Roots[1].Key = api.Q },
		func(c *api.Client) { c.Logs[1].Log = 0 },
		func(c *api.Client) { c.Logs[2].Log = 2 },
		func(c *api.Client) { c.Logs[3].Log = 4 },
		func(c *api.Client) { c.Logs[0], c.Logs[1] = c.Logs[1], c.Logs[0] },
		func(c *api.Client) { c.Logs = logsOf(17) },
	}
	for _, who := range noTexts() {
		l = append(l, func(c *api.Client) { c.Who = who })
	}
	for _, view := range noViews() {
		l = append(l, func(c *api.Client) { c.View = view })
	}
	for _, key := range noKeys() {
		l = append(l, func(c *api.Client) { c.Logs[0].Key = key }, func(c *api.Client) { c.Logs[3].Key = key })
	}
	for _, n := range noNumbers() {
		l = append(l, func(c *api.Client) { c.Logs[0].Delay = n }, func(c *api.Client) { c.Logs[3].Delay = n }, func(c *api.Client) { c.Logs[3].Log = n }, func(c *api.Client) { c.Logs[0].Log = n })
	}
	return l
}

func TestCheckOfWhatMayBe(t *testing.T) {
	checked(t, "right", api.OK, right().c)
	for _, who := range []string{"!", "~", "a", strings.Repeat("x", 64)} {
		checked(t, "a name", api.OK, changed(right().c, func(c *api.Client) { c.Who = who }))
	}
	for _, n := range []int{1, 2, 7, 8} {
		checked(t, "so many roots", api.OK, changed(right().c, func(c *api.Client) { c.Roots = slices.Repeat(c.Roots[:1], n) }))
	}
	for _, n := range []int{0, 1, 15, 16} {
		checked(t, "so many logs", api.OK, changed(right().c, func(c *api.Client) { c.Logs, c.Pool = logsOf(n), api.Pool{} }))
	}
	for _, n := range []int{0, 1, api.MaxTime} {
		checked(t, "a delay", api.OK, changed(right().c, func(c *api.Client) { c.Logs[0].Delay = n }))
	}
	for _, key := range []uint64{1, 4, api.Q - 2} {
		checked(t, "a key", api.OK, changed(right().c, func(c *api.Client) { c.Logs[3].Key = key }))
	}
	checked(t, "the last log", api.OK, changed(right().c, func(c *api.Client) { c.Logs[3].Log = api.MaxTime }))
	for view := range 2 {
		checked(t, "a view", api.OK, changed(right().c, func(c *api.Client) { c.View = view }))
	}
	for _, day := range []int{0, 1, 1<<36 - 1} {
		checked(t, "a day", api.OK, changed(right().c, func(c *api.Client) { c.Cascade = daily(day) }))
	}
	// A root is not signed by anybody, nor asked for its time.
	checked(t, "a root", api.OK, changed(right().c, func(c *api.Client) { c.Roots[0].Sig = api.Sig{} }))
}

func TestCheckOfWhatMayNotBe(t *testing.T) {
	badPool := func(c *api.Client) { c.Pool.L[1].Sig.E ^= 1 }
	fullPool := func(c *api.Client) { c.Pool.L = make([]api.Head, 1025) }
	badCascade := func(c *api.Client) { c.Cascade.Levels = make([]api.Sieve, 17) }
	for k, change := range wrongForms() {
		checked(t, "a form", api.ErrArg, changed(right().c, change))
		for _, behind := range []func(c *api.Client){badPool, fullPool, badCascade} {
			checked(t, "a form, and a pool, or a cascade", api.ErrArg, changed(right().c, func(c *api.Client) {
				behind(c)
				change(c)
			}))
		}
		if e := gossip.Check(right().c.Pool, right().c.Logs); e != api.OK {
			t.Fatal(k, e)
		}
	}
	for _, x := range []struct {
		change func(c *api.Client)
		e      api.Errno
	}{
		{badPool, api.ErrSig}, {fullPool, api.ErrBound}, {func(c *api.Client) { c.Pool.L[0], c.Pool.L[1] = c.Pool.L[1], c.Pool.L[0] }, api.ErrArg}, {func(c *api.Client) { c.Pool.L[0].At++ }, api.ErrSig},
		{func(c *api.Client) { c.Logs = c.Logs[1:] }, api.ErrSig}, {func(c *api.Client) { c.Logs = nil }, api.ErrSig}, {func(c *api.Client) { c.Logs[1].Key = 4 }, api.ErrSig},
	} {
		checked(t, "a pool", x.e, changed(right().c, x.change))
		checked(t, "a pool, and a cascade", x.e, changed(right().c, func(c *api.Client) {
			x.change(c)
			badCascade(c)
			c.Cascade.Day = -1
		}))
	}
	checked(t, "a cascade", api.ErrBound, changed(right().c, badCascade))
	for _, change := range []func(c *api.Client){func(c *api.Client) { c.Cascade.Day = -1 }, func(c *api.Client) { c.Cascade.Day = 1 << 36 }, func(c *api.Client) { c.Cascade.Day++ }, func(c *api.Client) { c.Cascade.Levels[0].B = nil }} {
		checked(t, "a cascade", api.ErrArg, changed(right().c, change))
	}
}

func TestNew(t *testing.T) {
	c := right().c
	for view := range 2 {
		for _, keys := range [][]api.Key{nil, c.Logs, logsOf(16)} {
			want := api.Client{Who: "bert", Roots: c.Roots, Logs: keys, View: view}
			if x, e := client.New("bert", c.Roots, keys, view); !same(x, want) || e != api.OK {
				t.Errorf("New is %v, %d, not %v", x, e, want)
			}
		}
	}
	for _, change := range wrongForms() {
		d := changed(c, change)
		if x, e := client.New(d.Who, d.Roots, d.Logs, d.View); !same(x, api.Client{}) || e != api.ErrArg {
			t.Errorf("New is %v, %d", x, e)
		}
	}
}

// P29.2

func TestTake(t *testing.T) {
	c := right().c
	l := holding(2, site(1, 0, 2, 5))
	for _, h := range []api.Head{headOf(l, 5, 20), headOf(l, 0, 0), headOf(l, 4, 21), headOf(holding(7, site(3)), 5, 20), c.Pool.L[1]} {
		pool, _ := gossip.Add(c.Pool, h, c.Logs)
		want := changed(c, func(c *api.Client) { c.Pool = pool })
		if x, e := client.Take(c, h); !same(x, want) || e != api.OK {
			t.Errorf("Take(%v) is %v, %d, not %v", h, x, e, want)
		}
	}
	none := func(h api.Head) {
		t.Helper()
		if x, e := client.Take(c, h); !same(x, api.Client{}) || e != api.ErrSig {
			t.Errorf("Take(%v) is %v, %d", h, x, e)
		}
	}
	none(api.Head{})
	none(headOf(holding(1, site(3)), 5, 20))
	for _, change := range []func(h *api.Head){func(h *api.Head) { h.Log = 0 }, func(h *api.Head) { h.Size++ }, func(h *api.Head) { h.At-- }, func(h *api.Head) { h.Root[0]++ }, func(h *api.Head) { h.Sig.S++ }} {
		h := headOf(l, 4, 20)
		change(&h)
		none(h)
	}
	// What contradicts is taken, too.
	hidden, _ := logd.Hide(l)
	h, _ := logd.Head(hidden, 1, 5, 20)
	x, e := client.Take(c, h)
	if x, e = client.Take(x, headOf(l, 5, 20)); e != api.OK || len(x.Pool.L) != 5 {
		t.Errorf("Take of a fork is %v, %d", x, e)
	}
}

func TestTakeAtTheBounds(t *testing.T) {
	a := right()
	l := holding(0, site(1, 0, 2, 5))
	a.c.Pool = api.Pool{}
	for k := range 1024 {
		a.c.Pool.L = append(a.c.Pool.L, headOf(l, 5, k))
	}
	if x, e := client.Take(a.c, headOf(l, 5, 1024)); !same(x, api.Client{}) || e != api.ErrBound {
		t.Errorf("Take of one more than 1024 is %d", e)
	}
	if x, e := client.Take(a.c, headOf(l, 5, 1000)); !same(x, a.c) || e != api.OK {
		t.Errorf("Take of one of 1024 is %d", e)
	}
}

func TestDay(t *testing.T) {
	c := right().c
	empty := changed(c, func(c *api.Client) { c.Cascade = api.Cascade{} })
	other, _ := cascade.Make([]int{1}, []int{2}, 7)
	for _, x := range []api.Cascade{daily(7), daily(8), daily(1<<36 - 1), other, {Day: 7}, {Day: 9}} {
		for _, from := range []api.Client{c, empty} {
			want := changed(from, func(c *api.Client) { c.Cascade = x })
			if y, e := client.Day(from, x); !same(y, want) || e != api.OK {
				t.Errorf("Day(%v) is %v, %d", x, y, e)
			}
		}
	}
	if y, e := client.Day(empty, api.Cascade{}); !same(y, empty) || e != api.OK {
		t.Errorf("Day of a cascade that is zero is %v, %d", y, e)
	}
	for _, day := range []int{0, 1, 6} {
		if y, e := client.Day(c, daily(day)); !same(y, api.Client{}) || e != api.ErrDate {
			t.Errorf("Day(%d) is %v, %d", day, y, e)
		}
	}
	late, torn := daily(9), daily(9)
	late.Day, torn.Levels[0].Hashes = 8, 2
	for _, x := range []struct {
		c api.Cascade
		e api.Errno
	}{{late, api.ErrArg}, {torn, api.ErrArg}, {api.Cascade{Day: -1}, api.ErrArg}, {api.Cascade{Day: 1 << 36}, api.ErrArg}, {api.Cascade{Levels: make([]api.Sieve, 17)}, api.ErrBound}} {
		if y, e := client.Day(c, x.c); !same(y, api.Client{}) || e != x.e {
			t.Errorf("Day(%v) is %v, %d, not %d", x.c, y, e, x.e)
		}
	}
}

// P29.3

func TestAccept(t *testing.T) {
	right().is(t, "right", api.OK)
	a := right()
	for _, now := range []int{10, 11, 89} {
		a.now = now
		a.is(t, "in time", api.OK)
	}
	a.name = "a.b"
	a.is(t, "another one of its names", api.OK)
	a = right()
	a.c.Cascade = api.Cascade{}
	a.is(t, "with a cascade that is zero", api.OK)
	a.c.View = 0
	a.is(t, "of another view", api.OK)
	a.c.Who = "bert"
	a.is(t, "of another one", api.OK)
}

func TestAcceptOfTimes(t *testing.T) {
	for _, now := range noNumbers() {
		a := right()
		a.now = now
		a.is(t, "no time", api.ErrArg)
		a.name = "A"
		a.is(t, "no time, and no name", api.ErrArg)
	}
}

func TestAcceptOfPaths(t *testing.T) {
	for _, x := range []struct {
		what   string
		e      api.Errno
		change func(a *asked)
	}{
		{"no path", api.ErrArg, func(a *asked) { a.o.Path = nil }},
		{"too long a path", api.ErrArg, func(a *asked) { a.o.Path = slices.Repeat(a.o.Path, 3) }},
		{"no name", api.ErrName, func(a *asked) { a.name = "A" }},
		{"another name", api.ErrName, func(a *asked) { a.name = "b" }},
		{"too early", api.ErrDate, func(a *asked) { a.now = 9 }},
		{"too late", api.ErrDate, func(a *asked) { a.now = 90 }},
		{"the certificate alone", api.ErrChain, func(a *asked) { a.o.Path = a.o.Path[:1] }},
		{"the other way round", api.ErrChain, func(a *asked) { slices.Reverse(a.o.Path) }},
		{"another root", api.ErrChain, func(a *asked) { a.c.Roots = a.c.Roots[:1] }},
		{"another signature", api.ErrSig, func(a *asked) { a.o.Path[0].Sig.E ^= 1 }},
		{"without the promises that were signed", api.ErrSig, func(a *asked) { a.o.Path[0].Proms = a.o.Path[0].Proms[:2] }},
		{"a certificate that may not be", api.ErrArg, func(a *asked) { a.o.Path[0].Serial = -1 }},
	} {
		a := right()
		x.change(&a)
		a.is(t, x.what, x.e)
		// Ahead of all that comes behind.
		a.o.Where, a.c.Logs, a.c.Pool = nil, nil, api.Pool{}
		a.is(t, x.what+", and no logs", x.e)
	}
}

func TestAcceptOfPromises(t *testing.T) {
	logs := func(a *asked, ids ...int) {
		a.c.Logs = nil
		for _, id := range ids {
			a.c.Logs = append(a.c.Logs, keyOf(id))
		}
		// Only heads of logs that it knows may be held.
		a.c.Pool.L = slices.DeleteFunc(a.c.Pool.L, func(h api.Head) bool { return !slices.Contains(ids, h.Log) })
	}
	for _, x := range []struct {
		promised, known []int
		e               api.Errno
	}{
		{[]int{0, 2}, []int{0, 2}, api.OK}, {[]int{0, 2}, []int{0, 1, 2, 3}, api.OK}, {[]int{0, 2, 5, 7}, []int{0, 2}, api.OK}, {[]int{0, 2, 5, 7}, []int{0, 7}, api.OK}, {[]int{0, 5}, []int{0, 2, 5}, api.OK},
		{[]int{0, 2}, []int{0}, api.ErrPromise}, {[]int{0, 2}, []int{2, 3}, api.ErrPromise}, {[]int{0, 2}, nil, api.ErrPromise}, {[]int{0, 2, 5, 7}, []int{0, 1, 3, 4}, api.ErrPromise},
		{[]int{0}, []int{0, 2}, api.ErrPromise}, {nil, []int{0, 2}, api.ErrPromise}, {[]int{5}, []int{0, 2, 5}, api.ErrPromise},
	} {
		a := of(site(1, x.promised...))
		logs(&a, x.known...)
		a.is(t, "promises, and logs that are known", x.e)
	}
}

// TestAcceptOfWrongPromises: the authority has signed whatever it was handed.
func TestAcceptOfWrongPromises(t *testing.T) {
	other := site(3, 0, 2, 5)
	for k, change := range []func(p *api.Promise){
		func(p *api.Promise) { p.At++ }, func(p *api.Promise) { p.Leaf[0] ^= 1 }, func(p *api.Promise) { p.Leaf[1] ^= 1 }, func(p *api.Promise) { p.Sig.E ^= 1 }, func(p *api.Promise) { p.Sig = api.Sig{} },
		// It is the log's, but of another certificate.
		func(p *api.Promise) {
			*p = other.Proms[slices.IndexFunc(other.Proms, func(q api.Promise) bool { return q.Log == p.Log })]
		},
	} {
		for at := range 2 {
			c := site(1, 0, 2)
			change(&c.Proms[at])
			a := of(signed(c, "middle"))
			a.is(t, "one of two promises", api.ErrPromise)
			c = site(1, 0, 2, 5)
			change(&c.Proms[at])
			a = of(signed(c, "middle"))
			want := api.OK
			if at == 0 {
				// What the log 0 shows counts no longer, since its promise does not.
				want = api.ErrLog
			}
			a.is(t, "one of three promises", want)
			if cert.Check(c) != api.OK {
				t.Fatal(k)
			}
		}
	}
}

func TestAcceptOfPlaces(t *testing.T) {
	c := site(1, 0, 2, 5)
	zero, two, five, seven := holding(0, c), holding(2, c), holding(5, c), holding(7, c)
	is := func(what string, want api.Errno, change func(a *asked)) {
		t.Helper()
		a := right()
		change(&a)
		a.is(t, what, want)
	}
	where := func(l ...api.Place) func(a *asked) { return func(a *asked) { a.o.Where = l } }
	is("no place", api.ErrLog, where())
	is("another size of which it holds a head", api.OK, where(placeOf(zero, 2, 3)))
	is("another log", api.OK, where(placeOf(two, 2, 4)))
	is("a size of which it holds no head", api.ErrLog, where(placeOf(zero, 2, 4)))
	is("a size of which it holds a head of another log", api.ErrLog, where(placeOf(two, 2, 5)))
	is("a log of which it holds no head", api.ErrLog, where(placeOf(five, 2, 5)))
	is("a log that has promised nothing", api.ErrLog, where(placeOf(seven, 2, 5)))
	is("another place", api.ErrLog, where(placeOf(zero, 1, 5)))
	is("several, of which the last one is right", api.OK, where(placeOf(five, 2, 5), placeOf(zero, 1, 5), placeOf(zero, 2, 4), placeOf(zero, 2, 5)))
	is("several, of which the first one is right", api.OK, where(placeOf(zero, 2, 5), placeOf(zero, 2, 4)))
	is("several, of which none is right", api.ErrLog, where(placeOf(zero, 2, 4), placeOf(two, 2, 5), placeOf(five, 2, 4)))
	for k, change := range []func(p *api.Place){
		func(p *api.Place) { p.Log = 2 }, func(p *api.Place) { p.Log = 7 }, func(p *api.Place) { p.At = 1 }, func(p *api.Place) { p.At = -1 }, func(p *api.Place) { p.At = math.MaxInt }, func(p *api.Place) { p.Size = 3 }, func(p *api.Place) { p.Size = 4 }, func(p *api.Place) { p.Size = 6 }, func(p *api.Place) { p.Size = 8 }, func(p *api.Place) { p.Size = math.MinInt }, func(p *api.Place) { p.Size = math.MaxInt },
		func(p *api.Place) { p.Proof = nil }, func(p *api.Place) { p.Proof = p.Proof[1:] }, func(p *api.Place) { p.Proof = append(p.Proof, api.Sum{}) }, func(p *api.Place) { p.Proof[0][0] ^= 1 }, func(p *api.Place) { p.Proof[2][1] ^= 1 },
	} {
		a := right()
		change(&a.o.Where[0])
		a.is(t, "a place that is changed", api.ErrLog)
		if len(right().o.Where[0].Proof) != 3 {
			t.Fatal(k)
		}
	}
	is("without heads", api.ErrLog, func(a *asked) { a.c.Pool = api.Pool{} })
	is("with a head of the other view", api.ErrLog, func(a *asked) {
		hidden := zero
		hidden.Hide = []int{2}
		h, _ := logd.Head(hidden, 1, 5, 20)
		a.c.Pool = pooled(h)
	})
	is("with heads of both views", api.OK, func(a *asked) {
		hidden := zero
		hidden.Hide = []int{2}
		h, _ := logd.Head(hidden, 1, 5, 20)
		a.c.Pool = pooled(append(a.c.Pool.L, h)...)
	})
	// Where another certificate stands, this one does not.
	is("of another certificate", api.ErrLog, func(a *asked) {
		other := holding(0, site(3, 0, 2))
		a.c.Pool, a.o.Where = pooled(headOf(other, 5, 20)), []api.Place{placeOf(other, 2, 5)}
	})
}

func TestAcceptOfTheFirstLeaves(t *testing.T) {
	// A log with that certificate alone: there is nothing to be proved.
	c := site(1, 0, 2, 5)
	pre, _ := cert.Pre(c)
	l, _, _ := logd.Add(logOf(2), pre, 12)
	l, _ = logd.Merge(l)
	a := right()
	a.c.Pool, a.o.Where = pooled(headOf(l, 1, 20)), []api.Place{{Log: 2, At: 0, Size: 1}}
	a.is(t, "the only leaf", api.OK)
	a.o.Where[0].Log = 0
	a.is(t, "the only leaf of another log", api.ErrLog)
	if h := a.c.Pool.L[0]; h.Root != merkle.Leaf(pre) {
		t.Errorf("the head is %v", h)
	}
}

func TestAcceptOfWhatIsRevoked(t *testing.T) {
	for serial, want := range map[int]api.Errno{1: api.OK, 2: api.ErrGone, 3: api.OK, 4: api.OK, 5: api.OK, 9: api.ErrGone} {
		a := of(site(serial, 0, 2, 5))
		a.is(t, "a serial number", want)
		// It is told last.
		a.o.Where = nil
		a.is(t, "a serial number, and no place", api.ErrLog)
		a = of(site(serial, 0))
		a.is(t, "a serial number, and one promise", api.ErrPromise)
		a = of(site(serial, 0, 2, 5))
		a.c.Cascade = api.Cascade{Day: 8}
		a.is(t, "by another cascade", api.OK)
	}
	// That an authority of the path is revoked is not asked.
	a := right()
	a.c.Cascade, _ = cascade.Make([]int{50}, []int{1}, 7)
	a.is(t, "an authority", api.OK)
}

// TestOrderOfErrors holds each error against each one behind it.
func TestOrderOfErrors(t *testing.T) {
	faults := []struct {
		what  string
		e     api.Errno
		fault func(a *asked)
	}{
		{"a view", api.ErrArg, func(a *asked) { a.c.View = 2 }},
		{"a head that is not right", api.ErrSig, func(a *asked) { a.c.Pool = api.Pool{L: []api.Head{{Log: 0, Size: 5}}} }},
		{"a cascade with too many levels", api.ErrBound, func(a *asked) { a.c.Cascade.Levels = make([]api.Sieve, 17) }},
		{"no time", api.ErrArg, func(a *asked) { a.now = -1 }},
		{"another name", api.ErrName, func(a *asked) { a.name = "b" }},
		{"one promise", api.ErrPromise, func(a *asked) {
			a.o.Path[0] = site(2, 0)
		}},
		{"no place", api.ErrLog, func(a *asked) { a.o.Where = nil }},
		{"revoked", api.ErrGone, func(*asked) {}},
	}
	for k, first := range faults {
		for _, second := range faults[k:] {
			a := of(site(2, 0, 2, 5))
			second.fault(&a)
			first.fault(&a)
			a.is(t, first.what+", "+second.what, first.e)
		}
	}
}

// P29.4

func TestMoreHeadsAcceptNoLess(t *testing.T) {
	a := right()
	for _, id := range []int{0, 2, 5, 7} {
		l := holding(id, site(1, 0, 2, 5))
		l.Hide = []int{0, 2, 4}
		for view := range 2 {
			for size := range 6 {
				h, _ := logd.Head(l, view, size, 30)
				c, e := client.Take(a.c, h)
				if e != api.OK {
					t.Fatalf("Take tells %d", e)
				}
				a.c = c
				a.is(t, "with a head more", api.OK)
			}
		}
	}
	if _, _, is := gossip.Fork(a.c.Pool); !is {
		t.Errorf("no two heads contradict each other")
	}
}

// R2

func spoil(c api.Client) {
	for _, root := range c.Roots {
		clear(root.Names)
		clear(root.Permit)
		clear(root.Proms)
	}
	for _, level := range c.Cascade.Levels {
		clear(level.B)
	}
	clear(c.Roots[:cap(c.Roots)])
	clear(c.Logs[:cap(c.Logs)])
	clear(c.Pool.L[:cap(c.Pool.L)])
	clear(c.Cascade.Levels[:cap(c.Cascade.Levels)])
}

func TestNothingIsChangedOrShared(t *testing.T) {
	// Roots that have all that an authority may have.
	full := func() api.Client {
		c := copied(right().c)
		c.Roots[0].Permit, c.Roots[0].Proms = []string{"*.b", "c"}, []api.Promise{{Log: 1}, {Log: 2}}
		return c
	}
	l := holding(2, site(1, 0, 2, 5))
	next := daily(9)
	for k, call := range []func(c api.Client) api.Client{
		func(c api.Client) api.Client { x, _ := client.New(c.Who, c.Roots, c.Logs, c.View); return x },
		func(c api.Client) api.Client { x, _ := client.Take(c, headOf(l, 5, 20)); return x },
		func(c api.Client) api.Client { x, _ := client.Take(c, c.Pool.L[0]); return x },
		func(c api.Client) api.Client { x, _ := client.Day(c, next); return x },
	} {
		c := full()
		x := call(c)
		was := copied(x)
		if x.Who != "anna" || !same(c, full()) {
			t.Errorf("call %d changes what is handed in", k)
		}
		spoil(c)
		if !same(x, was) {
			t.Errorf("what call %d has told changes with what was handed in", k)
		}
		c = full()
		spoil(call(c))
		if !same(c, full()) || !cascade.Same(next, daily(9)) {
			t.Errorf("what was handed in changes with what call %d has told", k)
		}
	}
	x, _ := client.Day(full(), next)
	clear(next.Levels[0].B)
	next.Levels[0] = api.Sieve{}
	if !cascade.Same(x.Cascade, daily(9)) {
		t.Errorf("a client changes with the cascade that it was handed")
	}
	a := right()
	a.is(t, "right", api.OK)
	b := right()
	if !same(a.c, b.c) || !slices.EqualFunc(a.o.Path, b.o.Path, cert.Same) || !slices.Equal(a.o.Where[0].Proof, b.o.Where[0].Proof) {
		t.Errorf("Accept changes what is handed in")
	}
}

// The chapter's example

func TestExample(t *testing.T) {
	a := right()
	c, e := client.New("anna", a.c.Roots, a.c.Logs, 0)
	if e != api.OK || len(c.Pool.L) != 0 {
		t.Errorf("New is %v, %d", c, e)
	}
	held := a.c.Pool.L
	a.c = c
	a.is(t, "a new client", api.ErrLog)
	for _, h := range held {
		if a.c, e = client.Take(a.c, h); e != api.OK {
			t.Errorf("Take is %d", e)
		}
	}
	a.is(t, "with heads", api.OK)
}
