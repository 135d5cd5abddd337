package resolve_test

import (
	"cmp"
	"math"
	"slices"
	"strconv"
	"strings"
	"testing"

	"greatseal/api"
	"greatseal/resolve"
)

func rec(name string, kind int, value string, life int) api.Rec {
	return api.Rec{Name: name, Kind: kind, Value: value, Life: life}
}

func text(name, value string, life int) api.Rec { return rec(name, api.TextK, value, life) }

func alias(name, to string, life int) api.Rec { return rec(name, api.AliasK, to, life) }

func cut(name string, to, life int) api.Rec { return rec(name, api.NsK, strconv.Itoa(to), life) }

// zoneOf is a zone with records, in whatever order they are told.
func zoneOf(apex string, recs ...api.Rec) api.Zone {
	recs = slices.Clone(recs)
	slices.SortFunc(recs, func(a, b api.Rec) int {
		return cmp.Or(strings.Compare(a.Name, b.Name), a.Kind-b.Kind, strings.Compare(a.Value, b.Value))
	})
	return api.Zone{Apex: apex, Recs: recs}
}

func server(addr int, zones ...api.Zone) api.Server { return api.Server{Addr: addr, Zones: zones} }

func netOf(servers ...api.Server) api.Net { return api.Net{Servers: servers, Seen: 2} }

func kinds() []int { return []int{api.TextK, api.CaaK, api.NsK, api.AliasK, api.HostK} }

func noKinds() []int {
	return []int{math.MinInt, -1, 0, 6, 7, 256 + api.TextK, 1<<32 + api.NsK, math.MaxInt}
}

func noTimes() []int {
	return []int{math.MinInt, -2, -1, api.MaxTime + 1, api.MaxTime + 2, math.MaxInt}
}

func noNames() []string {
	return []string{"", ".", "a..b", ".a", "a.", "-a", "A", "*.a", "_", "a b", "ä", "a.\xff", strings.Repeat("a", 17), "a.a.a.a.a.a.a.a.b", strings.Repeat("abcdefg.", 8) + "b"}
}

func kept(name string, kind, until int, values ...string) api.Kept {
	k := api.Kept{Name: name, Kind: kind, Until: until}
	for _, value := range values {
		k.Recs = append(k.Recs, rec(name, kind, value, 5))
	}
	return k
}

func cacheOf(l ...api.Kept) api.Cache { return api.Cache{L: l} }

// many is a cache of so many, in order, of which each is kept till 1000 and its place.
func many(number int) api.Cache {
	var c api.Cache
	for k := range number {
		c.L = append(c.L, kept("k"+strconv.Itoa(1000+k), api.TextK, 1000+k, "v"+strconv.Itoa(k)))
	}
	return c
}

// full is a cache that has something of everything.
func full() api.Cache {
	return cacheOf(kept("_a", api.HostK, 30, "h"), kept("a", api.TextK, 20, "x", "y"), kept("a", api.CaaK, 10), kept("a", api.HostK, 5, "h"), kept("a-b", api.TextK, 0, "z"), kept("a.b", api.AliasK, api.MaxTime, "c"), kept("aa", api.NsK, 11, "3"))
}

func copied(c api.Cache) api.Cache {
	l := slices.Clone(c.L)
	for k := range l {
		l[k].Recs = slices.Clone(l[k].Recs)
	}
	return api.Cache{L: l}
}

func changed(c api.Cache, change func(c *api.Cache)) api.Cache {
	c = copied(c)
	change(&c)
	return c
}

func sameKept(a, b api.Kept) bool {
	return a.Name == b.Name && a.Kind == b.Kind && a.Until == b.Until && slices.Equal(a.Recs, b.Recs)
}

func same(a, b api.Cache) bool { return slices.EqualFunc(a.L, b.L, sameKept) }

func mayBe() []api.Cache {
	l := []api.Cache{{}, cacheOf(), full(), many(1), many(127), many(128)}
	for _, kind := range kinds() {
		for _, until := range []int{0, 1, api.MaxTime - 1, api.MaxTime} {
			k := kept("a.b", kind, until)
			l = append(l, cacheOf(k))
			for number := range 64 {
				k.Recs = append(slices.Clip(k.Recs), rec("a.b", kind, "v"+strconv.Itoa(number), number))
				l = append(l, cacheOf(k))
			}
		}
	}
	// What a record of the kind says is not asked.
	strange := api.Kept{Name: "a", Kind: api.NsK, Recs: []api.Rec{{Kind: api.NsK}, {Name: "-", Kind: api.NsK, Value: "\xff", Life: -1}, {Kind: api.NsK}}}
	for _, name := range []string{"a", "_a.b", "0", strings.Repeat("a", 16), "a.a.a.a.a.a.a.b", strings.Repeat("abcdefg.", 7) + "abcdefgh"} {
		l = append(l, cacheOf(kept(name, api.TextK, 7, "v")))
	}
	return append(l, cacheOf(strange),
		cacheOf(kept("_a", api.HostK, 1), kept("a", api.TextK, 1), kept("a", api.CaaK, 1), kept("a", api.HostK, 1), kept("a-b", api.TextK, 1), kept("a.b", api.TextK, 1), kept("a0", api.TextK, 1), kept("aa", api.TextK, 1), kept("b", api.TextK, 1)),
	)
}

// mayNot are caches that may not be, because of something else than how many they keep.
func mayNot() []api.Cache {
	var l []api.Cache
	with := func(change func(k *api.Kept)) {
		for at := range full().L {
			l = append(l, changed(full(), func(c *api.Cache) { change(&c.L[at]) }))
		}
		k := kept("a", api.TextK, 5, "v")
		change(&k)
		l = append(l, cacheOf(k))
	}
	for _, name := range noNames() {
		with(func(k *api.Kept) { k.Name = name })
	}
	for _, kind := range noKinds() {
		with(func(k *api.Kept) { k.Kind, k.Recs = kind, nil })
		with(func(k *api.Kept) { k.Kind, k.Recs = kind, []api.Rec{{Name: k.Name, Kind: kind, Value: "v", Life: 5}} })
	}
	for _, until := range noTimes() {
		with(func(k *api.Kept) { k.Until = until })
	}
	for _, kind := range append(kinds(), noKinds()...) {
		with(func(k *api.Kept) {
			if kind == k.Kind {
				kind = 0
			}
			k.Recs = append(k.Recs, rec(k.Name, kind, "v", 5))
		})
		with(func(k *api.Kept) {
			if kind == k.Kind {
				kind = 6
			}
			k.Recs = []api.Rec{rec(k.Name, kind, "v", 5), rec(k.Name, k.Kind, "v", 5)}
		})
	}
	for _, number := range []int{65, 66, 1000} {
		with(func(k *api.Kept) {
			k.Recs = slices.Repeat([]api.Rec{rec(k.Name, k.Kind, "v", 5)}, number)
		})
	}
	for at := range len(full().L) - 1 {
		l = append(l, changed(full(), func(c *api.Cache) { c.L[at], c.L[at+1] = c.L[at+1], c.L[at] }))
		l = append(l, changed(full(), func(c *api.Cache) { c.L[at+1].Name, c.L[at+1].Kind, c.L[at+1].Recs = c.L[at].Name, c.L[at].Kind, nil }))
	}
	return append(l,
		cacheOf(kept("b", api.TextK, 1), kept("a", api.TextK, 2)), cacheOf(kept("a", api.HostK, 1), kept("a", api.TextK, 2)), cacheOf(kept("a", api.TextK, 1), kept("a", api.TextK, 2)), cacheOf(kept("a", api.TextK, 1, "v"), kept("a", api.TextK, 2, "w")),
		cacheOf(kept("a.b", api.TextK, 1), kept("a-b", api.TextK, 1)), cacheOf(kept("b", api.TextK, 1), kept("aa", api.HostK, 1)), cacheOf(kept("a", api.TextK, 1), kept("c", api.TextK, 1), kept("b", api.TextK, 1)),
	)
}

func tooMany() []api.Cache {
	wrong := changed(many(129), func(c *api.Cache) { c.L[0].Name = "" })
	return []api.Cache{many(129), many(130), many(1000), wrong, {L: make([]api.Kept, 129)}, cacheOf(slices.Repeat(full().L, 20)...)}
}

func mayNotNets() []api.Net {
	return []api.Net{{Seen: -1}, {Seen: 9}, {Servers: []api.Server{server(8)}, Seen: 2}, {Servers: []api.Server{server(0), server(0)}, Seen: 2}, {Servers: []api.Server{server(0, zoneOf("a."))}, Seen: 2}, {Seen: 2, Clocks: []api.Clock{{}}}, {Seen: 2, Bends: []api.Bend{{From: 0, To: 1}}}}
}

// tooManyNets have one zone too many.
func tooManyNets() []api.Net {
	var zones []api.Zone
	for k := range 9 {
		zones = append(zones, zoneOf("a"+strconv.Itoa(k)))
	}
	return []api.Net{netOf(server(0, zones...))}
}

func checked(t *testing.T, want api.Errno, c api.Cache) {
	t.Helper()
	if e := resolve.Check(c); e != want {
		t.Errorf("Check(%v) is %d, not %d", c, e, want)
	}
}

func held(t *testing.T, want []api.Rec, c api.Cache, now int, name string, kind int) {
	t.Helper()
	if l, ok := resolve.Held(c, now, name, kind); !slices.Equal(l, want) || !ok {
		t.Errorf("Held(%v, %d, %q, %d) is %v, %v, not %v", c, now, name, kind, l, ok, want)
	}
}

func notHeld(t *testing.T, c api.Cache, now int, name string, kind int) {
	t.Helper()
	if l, ok := resolve.Held(c, now, name, kind); len(l) != 0 || ok {
		t.Errorf("Held(%v, %d, %q, %d) is %v, %v", c, now, name, kind, l, ok)
	}
}

func trimmed(t *testing.T, want, c api.Cache, now int) {
	t.Helper()
	if x := resolve.Trim(c, now); !same(x, want) {
		t.Errorf("Trim(%v, %d) is %v, not %v", c, now, x, want)
	}
}

// asked is a question that is asked at a net, with a cache.
type asked struct {
	n    api.Net
	seen int
	c    api.Cache
	now  int
	name string
	kind int
}

func (a asked) is(t *testing.T, what string, want []api.Rec, wantX api.Cache, wantE api.Errno) {
	t.Helper()
	l, x, e := resolve.Find(a.n, a.seen, a.c, a.now, a.name, a.kind)
	if !slices.Equal(l, want) || !same(x, wantX) || e != wantE {
		t.Errorf("%s: Find(%v) is %v, %v, %d, not %v, %v, %d", what, a, l, x, e, want, wantX, wantE)
	}
}

// at asks for texts of an empty cache.
func at(n api.Net, now int, name string) asked {
	return asked{n: n, seen: -1, now: now, name: name, kind: api.TextK}
}

// found tells that these are found, and kept for so long.
func (a asked) found(t *testing.T, what string, life int, recs ...api.Rec) {
	t.Helper()
	a.is(t, what, recs, cacheOf(api.Kept{Name: a.name, Kind: a.kind, Recs: recs, Until: a.now + life}), api.OK)
}

func (a asked) none(t *testing.T, what string) {
	t.Helper()
	a.is(t, what, nil, cacheOf(api.Kept{Name: a.name, Kind: a.kind, Until: a.now + 10}), api.ErrNone)
}

func (a asked) lost(t *testing.T, what string) {
	t.Helper()
	a.is(t, what, nil, a.c, api.ErrLost)
}

func (a asked) refused(t *testing.T, what string, want api.Errno) {
	t.Helper()
	a.is(t, what, nil, api.Cache{}, want)
}

// P14.1

func TestCheck(t *testing.T) {
	for _, c := range mayBe() {
		checked(t, api.OK, c)
	}
	for _, c := range mayNot() {
		checked(t, api.ErrArg, c)
	}
	for _, c := range tooMany() {
		checked(t, api.ErrBound, c)
	}
	checked(t, api.ErrArg, changed(many(128), func(c *api.Cache) { c.L[127].Until = -1 }))
}

func TestHeld(t *testing.T) {
	for _, k := range full().L {
		for _, now := range []int{math.MinInt, -1, 0, k.Until - 1} {
			if now < k.Until {
				held(t, k.Recs, full(), now, k.Name, k.Kind)
			}
		}
		for _, now := range []int{k.Until, k.Until + 1, api.MaxTime, math.MaxInt} {
			notHeld(t, full(), now, k.Name, k.Kind)
		}
	}
	for _, name := range append(noNames(), "_a", "a", "a-b", "a.b", "aa", "b", "a0", "0") {
		for _, kind := range append(noKinds(), kinds()...) {
			if !slices.ContainsFunc(full().L, func(k api.Kept) bool { return k.Name == name && k.Kind == kind }) {
				notHeld(t, full(), -1, name, kind)
			}
		}
	}
	for at, k := range many(128).L {
		held(t, k.Recs, many(128), 999+at, k.Name, api.TextK)
		notHeld(t, many(128), 1000+at, k.Name, api.TextK)
	}
	notHeld(t, api.Cache{}, 0, "a", api.TextK)
}

func TestTrim(t *testing.T) {
	for _, c := range mayBe() {
		for _, now := range []int{math.MinInt, -1, 0, 1, 4, 5, 6, 9, 10, 11, 19, 20, 29, 30, 31, 1000, 1063, 1126, 1127, 1128, api.MaxTime - 1, api.MaxTime, api.MaxTime + 1, math.MaxInt} {
			want := changed(c, func(c *api.Cache) {
				var l []api.Kept
				for _, k := range c.L {
					if k.Until > now {
						l = append(l, k)
					}
				}
				c.L = l
			})
			trimmed(t, want, c, now)
		}
	}
	trimmed(t, cacheOf(full().L[0], full().L[1], full().L[5], full().L[6]), full(), 10)
	trimmed(t, cacheOf(full().L[0], full().L[1], full().L[5]), full(), 11)
	trimmed(t, api.Cache{}, full(), api.MaxTime)
}

func TestOfCachesThatMayNotBe(t *testing.T) {
	for _, c := range append(mayNot(), tooMany()...) {
		for _, now := range []int{-1, 0, 7, api.MaxTime} {
			trimmed(t, api.Cache{}, c, now)
			for _, k := range append(full().L, kept("k1000", api.TextK, 0), kept("b", api.TextK, 0)) {
				notHeld(t, c, now, k.Name, k.Kind)
			}
		}
	}
}

// P14.2

func TestWhoMayFind(t *testing.T) {
	n := netOf(server(0, zoneOf("", text("a", "x", 9))))
	right := asked{n: n, seen: -1, c: full(), now: 7, name: "q", kind: api.TextK}
	for _, change := range []func(a *asked, seen int){func(a *asked, seen int) { a.seen = seen }, func(a *asked, seen int) { a.seen, a.name = seen, "a" }, func(a *asked, seen int) { a.seen, a.name, a.kind = seen, "", 0 }} {
		for _, seen := range []int{math.MinInt, -3, -2, 2, 3, 8, math.MaxInt} {
			a := right
			change(&a, seen)
			a.refused(t, "no vantage point", api.ErrArg)
		}
	}
	for _, now := range noTimes() {
		for _, name := range []string{"a", "q", ""} {
			a := right
			a.now, a.name = now, name
			a.refused(t, "no time", api.ErrArg)
		}
	}
	for _, kind := range noKinds() {
		for _, name := range []string{"a", "q", ""} {
			a := right
			a.kind, a.name = kind, name
			a.refused(t, "no kind", api.ErrArg)
		}
	}
	for _, name := range noNames() {
		a := right
		a.name = name
		a.refused(t, "no name", api.ErrName)
		a.n = api.Net{}
		a.refused(t, "no name, no server", api.ErrName)
	}
	for many := range 9 {
		n.Seen = many
		for seen := -3; seen < 12; seen++ {
			a := at(n, 5, "a")
			a.seen = seen
			if seen < -1 || seen >= many {
				a.refused(t, "no vantage point", api.ErrArg)
			} else {
				a.found(t, "from "+strconv.Itoa(seen), 9, text("a", "x", 9))
			}
		}
	}
}

func TestOrderOfErrors(t *testing.T) {
	n := netOf(server(0, zoneOf("", text("a", "x", 9))))
	wrong := []asked{{}, {now: -1}, {seen: 2}, {kind: 6}, {name: "-"}}
	nets := slices.Concat([]api.Net{n}, mayNotNets(), tooManyNets())
	for _, a := range append(wrong, at(n, 5, "a")) {
		for _, a.n = range nets {
			for _, a.c = range mayNot() {
				a.refused(t, "no cache", api.ErrArg)
			}
			for _, a.c = range tooMany() {
				a.refused(t, "too great a cache", api.ErrBound)
			}
		}
		a.c = full()
		for _, a.n = range mayNotNets() {
			a.refused(t, "no net", api.ErrArg)
		}
		for _, a.n = range tooManyNets() {
			a.refused(t, "too great a net", api.ErrBound)
		}
	}
	// What is held is told only of a net that may be.
	a := asked{n: api.Net{Seen: 9}, seen: -1, c: full(), now: 1, name: "a", kind: api.TextK}
	a.refused(t, "held, no net", api.ErrArg)
	a.n, a.c = tooManyNets()[0], full()
	a.refused(t, "held, too great a net", api.ErrBound)
}

func TestWhatIsHeldIsTold(t *testing.T) {
	nets := []api.Net{{}, netOf(), netOf(server(0, zoneOf("", text("a", "other", 3), rec("_a", api.HostK, "other", 3), alias("a-b", "a-b", 3)))), netOf(server(7))}
	for _, n := range nets {
		for _, k := range full().L {
			for _, now := range []int{0, 4, 5, 9, 10, 19, 20, 29, 30, api.MaxTime - 1} {
				want := api.OK
				if len(k.Recs) == 0 {
					want = api.ErrNone
				}
				if now < k.Until {
					asked{n: n, seen: -1, c: full(), now: now, name: k.Name, kind: k.Kind}.is(t, "held", k.Recs, full(), want)
				}
			}
		}
		for _, k := range full().L {
			a := asked{n: n, seen: -1, c: full(), now: k.Until, name: k.Name, kind: k.Kind}
			if _, _, e := resolve.Find(a.n, a.seen, a.c, a.now, a.name, a.kind); e == api.OK && len(n.Servers) == 0 {
				t.Errorf("Find(%v) tells what is too old", a)
			}
		}
	}
}

func TestNoWay(t *testing.T) {
	at(api.Net{}, 5, "a").lost(t, "no server")
	at(netOf(), 5, "a").lost(t, "no server")
	at(netOf(server(1, zoneOf("", text("a", "x", 9)))), 5, "a").lost(t, "no server 0")
	at(netOf(server(0)), 5, "a").lost(t, "no zone")
	at(netOf(server(0, zoneOf("b"), zoneOf("c.a"))), 5, "a").lost(t, "no zone of it")
	at(netOf(server(0, zoneOf("", cut("a", 3, 5))), server(2, zoneOf("", text("a", "x", 9)))), 5, "a").lost(t, "a cut to no server")
	at(netOf(server(0, zoneOf("", cut("a", 3, 5))), server(3, zoneOf("b"))), 5, "a").lost(t, "a cut to no zone of it")
	at(netOf(server(0, zoneOf("", cut("a", 3, 5))), server(3)), 5, "a").lost(t, "a cut to no zone")
	at(netOf(server(0, zoneOf("b", alias("b", "a", 5))), server(1, zoneOf("a", text("a", "x", 9)))), 5, "b").lost(t, "an alias to what nobody knows")
	at(netOf(server(0, zoneOf("", cut("a", 0, 5)))), 5, "a").lost(t, "a cut to itself")
	at(netOf(server(0, zoneOf("", cut("a", 1, 5))), server(1, zoneOf("", cut("a", 0, 5)))), 5, "x.a").lost(t, "cuts that go round")
	at(netOf(server(0, zoneOf("", alias("a", "a", 5)))), 5, "a").lost(t, "an alias to itself")
	at(netOf(server(0, zoneOf("", alias("a", "b", 5), alias("b", "c", 5), alias("c", "a", 5)))), 5, "a").lost(t, "aliases that go round")
	// The cache is told as it was, with what is too old.
	a := at(netOf(), 15, "q")
	a.c = full()
	a.lost(t, "no server, full")
	a.c = many(128)
	a.now = 1010
	a.lost(t, "no server, many")
	a.n = netOf(server(0, zoneOf("", alias("q", "q", 5))))
	a.lost(t, "an alias to itself, many")
}

func TestEachAnswer(t *testing.T) {
	z := zoneOf("", text("a", "x", 9), text("a", "y", 8), rec("a", api.CaaK, "c", 7), rec("a", api.HostK, "h", 6), text("b.c", "x", 5), alias("d", "e", 4))
	n := netOf(server(0, z))
	ask := func(name string, kind int) asked {
		return asked{n: n, seen: -1, now: 5, name: name, kind: kind}
	}
	ask("a", api.TextK).found(t, "texts", 8, z.Recs[0], z.Recs[1])
	ask("a", api.CaaK).found(t, "who may issue", 7, z.Recs[2])
	ask("a", api.HostK).found(t, "a host", 6, z.Recs[3])
	ask("d", api.AliasK).found(t, "an alias", 4, z.Recs[5])
	ask("a", api.NsK).none(t, "none of that kind")
	ask("a", api.AliasK).none(t, "none of that kind")
	ask("c", api.TextK).none(t, "none of that kind, but below")
	ask("b", api.TextK).none(t, "no such name")
	ask("x.a", api.TextK).none(t, "no such name")
	// Where a part is stands at the zone's own apex.
	n = netOf(server(0, zoneOf("a", rec("a", api.NsK, "3", 7), rec("a", api.NsK, "4", 5))))
	ask("a", api.NsK).found(t, "where a part is", 5, n.Servers[0].Zones[0].Recs...)
	for _, kind := range []int{api.TextK, api.CaaK, api.AliasK, api.HostK} {
		ask("a", kind).none(t, "none of that kind")
	}
}

func TestCuts(t *testing.T) {
	n := netOf(
		server(0, zoneOf("", cut("a", 2, 50), text("b", "no", 1)), zoneOf("q", text("q", "x", 3))),
		server(2, zoneOf("a", text("a", "x", 60), cut("b.a", 5, 40), text("c.a", "y", 30))),
		server(5, zoneOf("b.a", text("b.a", "z", 45), alias("k.b.a", "q", 44), alias("l.b.a", "a", 20))),
	)
	at(n, 5, "a").found(t, "behind one cut", 50, text("a", "x", 60))
	at(n, 5, "c.a").found(t, "behind one cut", 30, text("c.a", "y", 30))
	at(n, 5, "d.a").none(t, "none behind one cut")
	at(n, 5, "b.a").found(t, "behind two cuts", 40, text("b.a", "z", 45))
	at(n, 5, "d.b.a").none(t, "none behind two cuts")
	// An alias behind cuts begins at the server 0 again.
	at(n, 5, "k.b.a").found(t, "an alias behind cuts", 3, text("q", "x", 3))
	at(n, 5, "l.b.a").found(t, "an alias behind cuts to what is behind one", 20, text("a", "x", 60))
	own := asked{n: n, seen: -1, now: 5, name: "a", kind: api.NsK}
	own.none(t, "a cut is asked for where it leads to")
	// The zone with the longest apex is asked.
	n = netOf(server(0, zoneOf("", text("a", "far", 9), text("b.a", "far", 9)), zoneOf("a", text("b.a", "near", 9)), zoneOf("b", text("b", "near", 9))))
	at(n, 5, "b.a").found(t, "the nearest zone", 9, text("b.a", "near", 9))
	at(n, 5, "a").none(t, "the nearest zone")
}

func TestFromWhere(t *testing.T) {
	n := netOf(server(0, zoneOf("", cut("a", 3, 9), text("b", "own", 9), alias("c", "b", 9))), server(3, zoneOf("a", text("a", "own", 9))), server(7, zoneOf("", text("a", "bent", 9), text("b", "bent", 9))))
	n.Seen = 3
	n.Bends = []api.Bend{{Seen: 0, From: 0, To: 7}, {Seen: 1, From: 3, To: 7}}
	for _, x := range []struct {
		seen       int
		name, want string
	}{{-1, "a", "own"}, {-1, "b", "own"}, {-1, "c", "own"}, {0, "a", "bent"}, {0, "b", "bent"}, {1, "a", "bent"}, {1, "b", "own"}, {1, "c", "own"}, {2, "a", "own"}, {2, "b", "own"}, {2, "c", "own"}} {
		a := at(n, 5, x.name)
		a.seen = x.seen
		name := x.name
		if name == "c" {
			name = "b"
		}
		a.found(t, "from "+strconv.Itoa(x.seen), 9, text(name, x.want, 9))
	}
	a := at(n, 5, "c")
	a.seen = 0
	a.none(t, "redirected to where there is no alias")
}

// chain is a net in which a100 is found behind so many aliases.
func chain(steps int) api.Net {
	var recs []api.Rec
	for k := range steps {
		recs = append(recs, alias("a"+strconv.Itoa(100+k), "a"+strconv.Itoa(101+k), 9))
	}
	recs = append(recs, text("a"+strconv.Itoa(100+steps), "x", 9))
	return netOf(server(0, zoneOf("", recs...)))
}

func TestTwelveSteps(t *testing.T) {
	for steps := range 12 {
		at(chain(steps), 5, "a100").found(t, strconv.Itoa(steps)+" steps ahead", 9, text("a"+strconv.Itoa(100+steps), "x", 9))
		a := at(chain(steps), 5, "a100")
		a.kind = api.HostK
		a.none(t, strconv.Itoa(steps)+" steps ahead, none")
	}
	for steps := 12; steps < 20; steps++ {
		at(chain(steps), 5, "a100").lost(t, strconv.Itoa(steps)+" steps ahead")
		at(chain(steps), 5, "a"+strconv.Itoa(100+steps-11)).found(t, "eleven steps ahead", 9, text("a"+strconv.Itoa(100+steps), "x", 9))
		a := at(chain(steps), 5, "a100")
		a.kind = api.HostK
		a.lost(t, strconv.Itoa(steps)+" steps ahead, none")
	}
	// Cuts are steps, too: each name here is two, and the last one three.
	var first, second []api.Rec
	for k := range 6 {
		name := "b" + strconv.Itoa(k)
		first = append(first, cut(name, 1, 9))
		second = append(second, alias(name, "b"+strconv.Itoa(k+1), 9))
	}
	n := netOf(server(0, zoneOf("", append(first, text("b6", "x", 9))...)), server(1, zoneOf("", second...)))
	at(n, 5, "b1").found(t, "the eleventh step", 9, text("b6", "x", 9))
	at(n, 5, "b0").lost(t, "the thirteenth step")
	n = netOf(server(0, zoneOf("", append(first, cut("b6", 1, 9))...)), server(1, zoneOf("", append(second, text("b6", "x", 9))...)))
	at(n, 5, "b1").found(t, "the twelfth step", 9, text("b6", "x", 9))
	at(n, 5, "b0").lost(t, "the fourteenth step")
}

// P14.3

func TestTheLeastLife(t *testing.T) {
	for _, lives := range [][4]int{{9, 8, 7, 6}, {6, 7, 8, 9}, {7, 6, 9, 8}, {8, 9, 6, 7}, {1000, 1000, 1000, 1000}, {999, 1000, 1000, 1000}, {1000, 1000, 1000, 999}, {1, 1, 1, 1}, {1000, 1, 1000, 1000}, {1000, 1000, 1, 1000}} {
		n := netOf(server(0, zoneOf("", alias("a", "b", lives[0]), cut("b", 4, lives[1]))), server(4, zoneOf("b", text("b", "x", lives[2]), text("b", "y", lives[3]))))
		at(n, 5, "a").found(t, "all steps", slices.Min(lives[:]), n.Servers[1].Zones[0].Recs...)
		at(n, 5, "b").found(t, "but the first", slices.Min(lives[1:]), n.Servers[1].Zones[0].Recs...)
		other := at(n, 5, "a")
		other.kind = api.HostK
		other.none(t, "none")
	}
	// Of a cut that stands there several times the first record alone is told.
	n := netOf(server(0, zoneOf("", cut("b", 4, 50), cut("b", 5, 2), text("c", "x", 1))), server(4, zoneOf("b", text("b", "x", 60), rec("b", api.HostK, "h", 3))))
	at(n, 5, "b").found(t, "one of two cuts", 50, text("b", "x", 60))
}

func TestUntilMaxTime(t *testing.T) {
	n := netOf(server(0, zoneOf("", text("a", "x", 9), text("b", "x", 1000))))
	for _, x := range []struct {
		name  string
		now   int
		until int
	}{{"a", 0, 9}, {"b", 0, 1000}, {"c", 0, 10}, {"a", api.MaxTime - 10, api.MaxTime - 1}, {"a", api.MaxTime - 9, api.MaxTime}, {"a", api.MaxTime - 8, api.MaxTime}, {"a", api.MaxTime, api.MaxTime}, {"b", api.MaxTime - 1000, api.MaxTime}, {"b", api.MaxTime - 999, api.MaxTime}, {"c", api.MaxTime - 11, api.MaxTime - 1}, {"c", api.MaxTime - 10, api.MaxTime}, {"c", api.MaxTime - 9, api.MaxTime}, {"c", api.MaxTime, api.MaxTime}} {
		want, wantE := []api.Rec{text(x.name, "x", 9)}, api.OK
		switch x.name {
		case "b":
			want[0].Life = 1000
		case "c":
			want, wantE = nil, api.ErrNone
		}
		at(n, x.now, x.name).is(t, "until", want, cacheOf(api.Kept{Name: x.name, Kind: api.TextK, Recs: want, Until: x.until}), wantE)
	}
}

func TestKeptInPlace(t *testing.T) {
	n := netOf(server(0, zoneOf("", text("a", "new", 9), rec("a", api.CaaK, "new", 9), rec("a", api.HostK, "new", 9), alias("b", "a", 9), text("_a", "new", 9), text("z", "new", 9), text("a-b", "new", 9))))
	for _, now := range []int{0, 1, 5, 7, 10, 11, 20, 30, 31, api.MaxTime - 9, api.MaxTime} {
		for _, name := range []string{"_a", "a", "a-b", "a.b", "aa", "b", "z", "0"} {
			for _, kind := range kinds() {
				a := asked{n: n, seen: 1, c: full(), now: now, name: name, kind: kind}
				k := slices.IndexFunc(full().L, func(k api.Kept) bool { return k.Name == name && k.Kind == kind && k.Until > now })
				if k >= 0 {
					continue
				}
				added := api.Kept{Name: name, Kind: kind, Until: min(now+10, api.MaxTime)}
				from := name
				if name == "b" && kind != api.AliasK {
					from = "a"
				}
				for _, r := range n.Servers[0].Zones[0].Recs {
					if r.Name == from && r.Kind == kind {
						added.Recs, added.Until = append(added.Recs, r), min(now+9, api.MaxTime)
					}
				}
				want := cacheOf(added)
				for _, k := range full().L {
					if k.Until > now {
						want.L = append(want.L, k)
					}
				}
				slices.SortFunc(want.L, func(a, b api.Kept) int {
					return cmp.Or(strings.Compare(a.Name, b.Name), a.Kind-b.Kind)
				})
				wantE := api.OK
				if len(added.Recs) == 0 {
					wantE = api.ErrNone
				}
				a.is(t, "kept", added.Recs, want, wantE)
			}
		}
	}
}

func TestInPlaceOfWhatIsTooOld(t *testing.T) {
	n := netOf(server(0, zoneOf("", text("k1000", "new", 9), text("k1064", "new", 9))))
	for _, x := range []struct {
		name      string
		now, gone int
	}{{"k1000", 1000, 1}, {"k1000", 1001, 2}, {"k1000", 1064, 65}, {"k1064", 1064, 65}, {"k1064", 1127, 128}, {"k1064", 1200, 128}} {
		added := api.Kept{Name: x.name, Kind: api.TextK, Recs: []api.Rec{text(x.name, "new", 9)}, Until: x.now + 9}
		a := at(n, x.now, x.name)
		a.c = many(128)
		want := cacheOf(append([]api.Kept{added}, many(128).L[x.gone:]...)...)
		a.is(t, "in its place", added.Recs, want, api.OK)
	}
}

func TestWhoIsPushedOut(t *testing.T) {
	n := netOf(server(0, zoneOf("", text("a", "x", 9), text("k1063a", "x", 9), text("z", "x", 9), alias("y", "k1063a", 1))))
	lived := func(untils map[int]int) api.Cache {
		return changed(many(128), func(c *api.Cache) {
			for k := range c.L {
				c.L[k].Until = 5000
				if until, ok := untils[k]; ok {
					c.L[k].Until = until
				}
			}
		})
	}
	for _, x := range []struct {
		c    api.Cache
		gone int
	}{
		{many(128), 0}, {lived(nil), 0}, {lived(map[int]int{127: 4999}), 127}, {lived(map[int]int{63: 4999}), 63}, {lived(map[int]int{64: 4999, 3: 5001}), 64}, {lived(map[int]int{64: 4999, 63: 4999, 65: 4998, 100: 4998, 127: 4998}), 65},
		{lived(map[int]int{64: 8, 63: 7, 65: 6}), 65}, {lived(map[int]int{0: api.MaxTime, 1: api.MaxTime}), 2}, {lived(map[int]int{127: 6, 126: 6}), 126},
	} {
		for _, name := range []string{"a", "k1063a", "z", "y", "b", "k1063b", "zz"} {
			added := api.Kept{Name: name, Kind: api.TextK, Until: 15}
			wantE := api.ErrNone
			switch name {
			case "a", "k1063a", "z":
				added.Recs, added.Until, wantE = []api.Rec{text(name, "x", 9)}, 14, api.OK
			case "y":
				added.Recs, added.Until, wantE = []api.Rec{text("k1063a", "x", 9)}, 6, api.OK
			}
			want := changed(x.c, func(c *api.Cache) {
				c.L = slices.Delete(c.L, x.gone, x.gone+1)
				place := slices.IndexFunc(c.L, func(k api.Kept) bool { return k.Name > name })
				if place < 0 {
					place = len(c.L)
				}
				c.L = slices.Insert(c.L, place, added)
			})
			a := at(n, 5, name)
			a.c = x.c
			a.is(t, "pushed out "+strconv.Itoa(x.gone), added.Recs, want, wantE)
			checked(t, api.OK, want)
		}
	}
	// Where one is too old, or there is room, nobody is pushed out.
	a := at(n, 5, "a")
	a.c = lived(map[int]int{77: 5})
	added := api.Kept{Name: "a", Kind: api.TextK, Recs: []api.Rec{text("a", "x", 9)}, Until: 14}
	a.is(t, "one is too old", added.Recs, cacheOf(slices.Concat([]api.Kept{added}, a.c.L[:77], a.c.L[78:])...), api.OK)
	a.c = cacheOf(lived(nil).L[:127]...)
	a.is(t, "room for one", added.Recs, cacheOf(slices.Concat([]api.Kept{added}, a.c.L)...), api.OK)
}

// P14.4

func TestToldAgain(t *testing.T) {
	n := netOf(server(0, zoneOf("", text("a", "x", 9), alias("b", "a", 5), text("c.a", "y", 1000))))
	others := []api.Net{n, {}, netOf(), netOf(server(0, zoneOf("", text("a", "other", 3), text("b", "other", 3), text("c", "other", 3)))), netOf(server(7))}
	for _, x := range []struct {
		name string
		life int
		e    api.Errno
	}{{"a", 9, api.OK}, {"b", 5, api.OK}, {"c.a", 1000, api.OK}, {"c", 10, api.ErrNone}, {"x.a", 10, api.ErrNone}} {
		l, c, e := resolve.Find(n, -1, api.Cache{}, 20, x.name, api.TextK)
		if e != x.e || (e == api.OK) != (len(l) == 1) {
			t.Fatalf("Find of %q is %v, %d", x.name, l, e)
		}
		for _, other := range others {
			for _, now := range []int{0, 20, 20 + x.life - 1} {
				asked{n: other, seen: -1, c: c, now: now, name: x.name, kind: api.TextK}.is(t, "told again", l, c, e)
			}
		}
		for _, other := range others[1:3] {
			a := asked{n: other, seen: -1, c: c, now: 20 + x.life, name: x.name, kind: api.TextK}
			a.lost(t, "its time is over")
		}
	}
}

func TestTillOthersPushItOut(t *testing.T) {
	n := netOf(server(0, zoneOf("", text("a", "x", 5))))
	_, c, e := resolve.Find(n, -1, api.Cache{}, 20, "a", api.TextK)
	for k := range 128 {
		if e != api.OK && e != api.ErrNone || len(c.L) != k+1 {
			t.Fatalf("behind %d others Find tells %d", k, e)
		}
		held(t, []api.Rec{text("a", "x", 5)}, c, 24, "a", api.TextK)
		_, c, e = resolve.Find(n, -1, c, 20, "other"+strconv.Itoa(k), api.TextK)
	}
	notHeld(t, c, 24, "a", api.TextK)
}

func TestWhoIsNotRedirected(t *testing.T) {
	n := netOf(server(0, zoneOf("", cut("a", 3, 9), text("b", "x", 9), alias("c", "d.a", 7))), server(3, zoneOf("a", text("a", "y", 9), text("d.a", "z", 9))), server(7, zoneOf("", text("a", "bent", 9))))
	bent := n
	bent.Seen = 4
	bent.Bends = []api.Bend{{Seen: 1, From: 0, To: 7}, {Seen: 1, From: 3, To: 7}, {Seen: 3, From: 3, To: 7}}
	for _, name := range []string{"a", "b", "c", "d.a", "e.a", "q"} {
		for _, kind := range kinds() {
			wantL, wantX, wantE := resolve.Find(n, -1, full(), 7, name, kind)
			for _, seen := range []int{-1, 0, 2} {
				asked{n: bent, seen: seen, c: full(), now: 7, name: name, kind: kind}.is(t, "not redirected", wantL, wantX, wantE)
			}
		}
	}
}

// R2, R6

func TestNothingIsChangedOrShared(t *testing.T) {
	roomy := func() (api.Cache, api.Net) {
		c := full()
		for k := range c.L {
			c.L[k].Recs = append(c.L[k].Recs, api.Rec{}, api.Rec{})[:len(c.L[k].Recs)]
		}
		recs := append([]api.Rec{text("aa", "x", 9), alias("b", "aa", 5)}, api.Rec{}, api.Rec{})[:2]
		return api.Cache{L: append(c.L, api.Kept{}, api.Kept{})[:len(c.L)]}, netOf(server(0, api.Zone{Recs: recs}))
	}
	spoil := func(c api.Cache, l []api.Rec) {
		for _, k := range c.L {
			clear(k.Recs[:cap(k.Recs)])
		}
		clear(c.L[:cap(c.L)])
		clear(l[:cap(l)])
	}
	find := func(now int, name string) func(c api.Cache, n api.Net) ([]api.Rec, api.Cache) {
		return func(c api.Cache, n api.Net) ([]api.Rec, api.Cache) {
			l, x, _ := resolve.Find(n, -1, c, now, name, api.TextK)
			return l, x
		}
	}
	for k, call := range []func(c api.Cache, n api.Net) ([]api.Rec, api.Cache){
		find(7, "aa"), find(7, "b"), find(7, "q"), find(7, "a"), find(-1, "a"), find(4, "z.z"), find(25, "a"), find(40, "b"),
		func(c api.Cache, n api.Net) ([]api.Rec, api.Cache) {
			l, _, _ := resolve.Find(api.Net{}, -1, c, 7, "a", api.TextK)
			_, x, _ := resolve.Find(api.Net{}, -1, c, 7, "q", api.TextK)
			return l, x
		},
		func(c api.Cache, n api.Net) ([]api.Rec, api.Cache) { return nil, resolve.Trim(c, 7) },
		func(c api.Cache, n api.Net) ([]api.Rec, api.Cache) { return nil, resolve.Trim(c, -1) },
		func(c api.Cache, n api.Net) ([]api.Rec, api.Cache) {
			l, _ := resolve.Held(c, 7, "a", api.TextK)
			return l, api.Cache{}
		},
	} {
		c, n := roomy()
		_, recs := roomy()
		l, x := call(c, n)
		wasL, wasX := slices.Clone(l), copied(x)
		if !same(c, full()) || !slices.Equal(n.Servers[0].Zones[0].Recs, recs.Servers[0].Zones[0].Recs) {
			t.Errorf("call %d changes what is handed in", k)
		}
		spoil(c, n.Servers[0].Zones[0].Recs)
		if !slices.Equal(l, wasL) || !same(x, wasX) {
			t.Errorf("what call %d has told changes with what was handed in", k)
		}
		c, n = roomy()
		l, x = call(c, n)
		clear(l[:cap(l)])
		if !same(x, wasX) {
			t.Errorf("the cache that call %d has told changes with the records", k)
		}
		spoil(x, nil)
		if !same(c, full()) || !slices.Equal(n.Servers[0].Zones[0].Recs, recs.Servers[0].Zones[0].Recs) {
			t.Errorf("what was handed in changes with what call %d has told", k)
		}
	}
}

// The chapter's example

func TestExample(t *testing.T) {
	n := api.Net{Servers: []api.Server{{Zones: []api.Zone{{Recs: []api.Rec{{Name: "a", Kind: api.TextK, Value: "x", Life: 9}, {Name: "b", Kind: api.AliasK, Value: "a", Life: 5}}}}}}}
	x := api.Rec{Name: "a", Kind: api.TextK, Value: "x", Life: 9}
	at(n, 1, "b").is(t, "example", []api.Rec{x}, cacheOf(api.Kept{Name: "b", Kind: api.TextK, Recs: []api.Rec{x}, Until: 6}), api.OK)
	at(n, 1, "c").is(t, "example", nil, cacheOf(api.Kept{Name: "c", Kind: api.TextK, Until: 11}), api.ErrNone)
}
