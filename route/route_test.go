package route_test

import (
	"math"
	"slices"
	"strconv"
	"strings"
	"testing"

	"greatseal/api"
	"greatseal/route"
)

func rec(name, value string) api.Rec {
	return api.Rec{Name: name, Kind: api.TextK, Value: value, Life: 5}
}

// zoneOf is a zone with a text at its apex, so that it may be known again.
func zoneOf(apex, value string) api.Zone {
	return api.Zone{Apex: apex, Recs: []api.Rec{rec(apex, value)}}
}

// server is one with a zone of each apex, which all say whose they are.
func server(addr int, apexes ...string) api.Server {
	s := api.Server{Addr: addr}
	for _, apex := range apexes {
		s.Zones = append(s.Zones, zoneOf(apex, "at"+strconv.Itoa(addr)))
	}
	return s
}

func apexes(many int) []string {
	return []string{"_a", "a", "a-b", "a.b", "aa", "b", "c.b", "z", "zz", "zz.z"}[:many]
}

// emptyServers are so many, without zones, from the address 0 on.
func emptyServers(many int) []api.Server {
	var l []api.Server
	for addr := range many {
		l = append(l, api.Server{Addr: addr})
	}
	return l
}

// manyClocks are so many, in order.
func manyClocks(many int) []api.Clock {
	var l []api.Clock
	for k := range many {
		l = append(l, api.Clock{Who: "who" + strconv.Itoa(1000+k), By: k%11 - 5})
	}
	return l
}

// allBends are all that a net of so many vantage points and servers may have at once, each to the next server.
func allBends(seen, servers int) []api.Bend {
	var l []api.Bend
	for s := range seen {
		for from := range servers {
			l = append(l, api.Bend{Seen: s, From: from, To: (from + 1) % servers})
		}
	}
	return l
}

// bentNet is a net with all that there is.
func bentNet() api.Net {
	return api.Net{
		Servers: []api.Server{server(0, "a", "b", "c.b"), server(2, "a"), server(5), server(7, "b", "z")},
		Seen:    3,
		Bends:   []api.Bend{{Seen: 0, From: 2, To: 7}, {Seen: 2, From: 0, To: 7}, {Seen: 2, From: 5, To: 2}, {Seen: 2, From: 7, To: 5}},
		Clocks:  []api.Clock{{Who: "anna", By: -5}, {Who: "ben", By: 5}, {Who: "cy"}},
	}
}

func mayBe() []api.Net {
	l := []api.Net{{}, {Seen: 8}, {Servers: emptyServers(8)}, {Servers: []api.Server{{Addr: 7}}}, {Servers: []api.Server{{Addr: 0}, {Addr: 7}}, Seen: 1}, bentNet()}
	for many := range 9 {
		l = append(l, api.Net{Seen: many, Servers: []api.Server{server(3, apexes(many)...), server(4, apexes(8)...)}})
	}
	for _, value := range []string{"!", "~", "a", strings.Repeat("x", 64), "A"} {
		l = append(l, api.Net{Clocks: []api.Clock{{Who: value, By: 5}}})
	}
	full := []api.Zone{{}, {Apex: "b"}}
	for k := range 64 {
		full[0].Recs = append(full[0].Recs, rec("x"+strconv.Itoa(1000+k), "v"))
	}
	return append(l,
		api.Net{Servers: []api.Server{{Addr: 1, Zones: full}}}, api.Net{Servers: emptyServers(8), Seen: 8, Bends: allBends(8, 8), Clocks: manyClocks(64)},
		api.Net{Servers: emptyServers(2), Seen: 2, Bends: []api.Bend{{Seen: 1, From: 0, To: 1}}}, api.Net{Clocks: []api.Clock{{Who: "A"}, {Who: "a"}, {Who: "aa"}, {Who: "b", By: -5}}},
	)
}

// changed is a net of its own, with something that is otherwise.
func changed(n api.Net, change func(n *api.Net)) api.Net {
	n = copied(n)
	change(&n)
	return n
}

func copied(n api.Net) api.Net {
	n.Servers = slices.Clone(n.Servers)
	for k := range n.Servers {
		n.Servers[k].Zones = slices.Clone(n.Servers[k].Zones)
		for i := range n.Servers[k].Zones {
			n.Servers[k].Zones[i].Recs = slices.Clone(n.Servers[k].Zones[i].Recs)
		}
	}
	n.Bends, n.Clocks = slices.Clone(n.Bends), slices.Clone(n.Clocks)
	return n
}

// noZones are zones that may not be; the last one has too many records.
func noZones() []api.Zone {
	l := []api.Zone{{Apex: "a."}, {Apex: "-a"}, zoneOf("A", "v"), {Apex: "a", Recs: []api.Rec{rec("b", "v")}}, {Apex: "a", Recs: []api.Rec{rec("a", "")}}, {Apex: "a", Recs: []api.Rec{rec("a", "v"), rec("a", "v")}}, {Recs: []api.Rec{{}}}, {Apex: "a"}}
	for k := range 65 {
		l[7].Recs = append(l[7].Recs, rec("x"+strconv.Itoa(1000+k)+".a", "v"))
	}
	return l
}

// mayNot are nets that may not be, because of something else than how many zones and clocks there are.
func mayNot() []api.Net {
	changes := []func(n *api.Net){
		func(n *api.Net) { n.Seen = -1 }, func(n *api.Net) { n.Seen = math.MinInt }, func(n *api.Net) { n.Seen = 9 }, func(n *api.Net) { n.Seen = math.MaxInt },
		func(n *api.Net) { n.Servers[0].Addr = -1 }, func(n *api.Net) { n.Servers[3].Addr = 8 }, func(n *api.Net) { n.Servers[3].Addr = math.MaxInt },
		func(n *api.Net) { n.Bends = nil; n.Servers[1].Addr = 0 }, func(n *api.Net) { n.Bends = nil; n.Servers[1].Addr = 6 }, func(n *api.Net) { n.Bends = nil; slices.Reverse(n.Servers) },
		func(n *api.Net) { n.Servers = append(n.Servers, api.Server{Addr: 8}) }, func(n *api.Net) { n.Servers = append(n.Servers, api.Server{Addr: 7}) },
		// zones out of order, or twice
		func(n *api.Net) { slices.Reverse(n.Servers[0].Zones) }, func(n *api.Net) { n.Servers[0].Zones[1] = zoneOf("a", "other") }, func(n *api.Net) { n.Servers[0].Zones[2] = zoneOf("aa", "v") }, func(n *api.Net) { n.Servers[3].Zones[1] = api.Zone{} },
		// bends of no vantage point, of no server, from a server to itself, out of order, or twice
		func(n *api.Net) { n.Bends[0].Seen = -1 }, func(n *api.Net) { n.Bends[3].Seen = 3 }, func(n *api.Net) { n.Seen = 2 }, func(n *api.Net) { n.Seen = 0 },
		func(n *api.Net) { n.Bends[0].From = 3 }, func(n *api.Net) { n.Bends[0].From = 8 }, func(n *api.Net) { n.Bends[0].To = 3 }, func(n *api.Net) { n.Bends[0].To = -1 }, func(n *api.Net) { n.Bends[0].To = 2 }, func(n *api.Net) { n.Bends[3].To = 7 },
		func(n *api.Net) { n.Bends[1], n.Bends[2] = n.Bends[2], n.Bends[1] }, func(n *api.Net) { n.Bends[0], n.Bends[1] = n.Bends[1], n.Bends[0] }, func(n *api.Net) { n.Bends[2] = n.Bends[1] }, func(n *api.Net) { n.Bends[2] = api.Bend{Seen: 2, From: 0, To: 5} },
		func(n *api.Net) { n.Servers = n.Servers[:3] }, func(n *api.Net) { n.Servers = nil },
		// clocks of nobody, too far ahead or behind, out of order, or twice
		func(n *api.Net) { n.Clocks[0].By = -6 }, func(n *api.Net) { n.Clocks[1].By = 6 }, func(n *api.Net) { n.Clocks[2].By = math.MaxInt }, func(n *api.Net) { n.Clocks[2].By = math.MinInt },
		func(n *api.Net) { n.Clocks[0].Who = "" }, func(n *api.Net) { n.Clocks[0].Who = " " }, func(n *api.Net) { n.Clocks[0].Who = "a b" }, func(n *api.Net) { n.Clocks[0].Who = "a\x7f" }, func(n *api.Net) { n.Clocks[2].Who = "ä" }, func(n *api.Net) { n.Clocks[2].Who = "z\xff" }, func(n *api.Net) { n.Clocks[2].Who = "\n" }, func(n *api.Net) { n.Clocks[2].Who = strings.Repeat("z", 65) },
		func(n *api.Net) { slices.Reverse(n.Clocks) }, func(n *api.Net) { n.Clocks[1].Who = "anna" }, func(n *api.Net) { n.Clocks[2].Who = "be" }, func(n *api.Net) { n.Clocks[2].Who = "Cy" },
	}
	l := []api.Net{{Seen: -1}, {Seen: math.MinInt}, {Seen: 9}, {Seen: -1, Servers: emptyServers(8)}}
	for _, change := range changes {
		l = append(l, changed(bentNet(), change))
	}
	for _, z := range noZones() {
		l = append(l, api.Net{Servers: []api.Server{{Addr: 3, Zones: []api.Zone{z}}}}, api.Net{Servers: []api.Server{{Addr: 0}, {Addr: 3, Zones: []api.Zone{{}, z}}, {Addr: 5}}})
	}
	return l
}

func tooMany() []api.Net {
	return []api.Net{
		{Servers: []api.Server{server(0, apexes(9)...)}}, {Servers: []api.Server{server(0), server(3, apexes(10)...), server(5)}}, {Clocks: manyClocks(65)}, {Clocks: manyClocks(1000)}, {Servers: []api.Server{server(7, apexes(9)...)}, Clocks: manyClocks(65), Seen: 8},
	}
}

func sameZone(a, b api.Zone) bool { return a.Apex == b.Apex && slices.Equal(a.Recs, b.Recs) }

func sameServer(a, b api.Server) bool {
	return a.Addr == b.Addr && slices.EqualFunc(a.Zones, b.Zones, sameZone)
}

func same(a, b api.Net) bool {
	return a.Seen == b.Seen && slices.EqualFunc(a.Servers, b.Servers, sameServer) && slices.Equal(a.Bends, b.Bends) && slices.Equal(a.Clocks, b.Clocks)
}

func seenAs(t *testing.T, want api.Server, n api.Net, seen, addr int) {
	t.Helper()
	if s, ok := route.Server(n, seen, addr); !sameServer(s, want) || !ok {
		t.Errorf("Server(%v, %d, %d) is %v, %v, not %v", n, seen, addr, s, ok, want)
	}
}

func notSeen(t *testing.T, what string, n api.Net, seen, addr int) {
	t.Helper()
	if s, ok := route.Server(n, seen, addr); !sameServer(s, api.Server{}) || ok {
		t.Errorf("%s: Server(%v, %d, %d) is %v, %v", what, n, seen, addr, s, ok)
	}
}

func put(t *testing.T, want, n api.Net, addr int, z api.Zone) {
	t.Helper()
	if told, e := route.Put(n, addr, z); !same(told, want) || e != api.OK {
		t.Errorf("Put(%v, %d, %v) is %v, %d, not %v", n, addr, z, told, e, want)
	}
}

func notPut(t *testing.T, what string, want api.Errno, n api.Net, addr int, z api.Zone) {
	t.Helper()
	if told, e := route.Put(n, addr, z); !same(told, api.Net{}) || e != want {
		t.Errorf("%s: Put(%v, %d, %v) is %v, %d, not %d", what, n, addr, z, told, e, want)
	}
}

func bent(t *testing.T, want, n api.Net, b api.Bend) {
	t.Helper()
	if told, e := route.Bend(n, b); !same(told, want) || e != api.OK {
		t.Errorf("Bend(%v, %v) is %v, %d, not %v", n, b, told, e, want)
	}
}

func notBent(t *testing.T, what string, want api.Errno, n api.Net, b api.Bend) {
	t.Helper()
	if told, e := route.Bend(n, b); !same(told, api.Net{}) || e != want {
		t.Errorf("%s: Bend(%v, %v) is %v, %d, not %d", what, n, b, told, e, want)
	}
}

func mended(t *testing.T, want, n api.Net, b api.Bend) {
	t.Helper()
	if told, e := route.Mend(n, b); !same(told, want) || e != api.OK {
		t.Errorf("Mend(%v, %v) is %v, %d, not %v", n, b, told, e, want)
	}
}

func notMended(t *testing.T, what string, want api.Errno, n api.Net, b api.Bend) {
	t.Helper()
	if told, e := route.Mend(n, b); !same(told, api.Net{}) || e != want {
		t.Errorf("%s: Mend(%v, %v) is %v, %d, not %d", what, n, b, told, e, want)
	}
}

// P13.1

func TestCheck(t *testing.T) {
	for _, n := range mayBe() {
		if e := route.Check(n); e != api.OK {
			t.Errorf("Check(%v) is %d", n, e)
		}
	}
	for _, n := range mayNot() {
		if e := route.Check(n); e != api.ErrArg {
			t.Errorf("Check(%v) is %d", n, e)
		}
	}
	for _, n := range tooMany() {
		if e := route.Check(n); e != api.ErrBound {
			t.Errorf("Check(%v) is %d", n, e)
		}
	}
	// What may not be is told ahead of what is too much.
	for _, n := range mayNot() {
		n = copied(n)
		n.Clocks = append(n.Clocks, manyClocks(65)...)
		for k := range n.Servers {
			n.Servers[k].Zones = append(n.Servers[k].Zones, server(k, "zz0", "zz1", "zz2", "zz3", "zz4", "zz5", "zz6", "zz7", "zz8").Zones...)
		}
		if e := route.Check(n); e != api.ErrArg {
			t.Errorf("Check(%v) is %d", n, e)
		}
	}
}

// P13.2

func TestServerIsSeenByItsBends(t *testing.T) {
	n := bentNet()
	own := map[int][]api.Zone{}
	for _, s := range n.Servers {
		own[s.Addr] = s.Zones
	}
	leads := map[[2]int]int{{0, 2}: 7, {2, 0}: 7, {2, 5}: 2, {2, 7}: 5}
	for seen := -1; seen < n.Seen; seen++ {
		for _, addr := range []int{0, 2, 5, 7} {
			to, ok := leads[[2]int{seen, addr}]
			if !ok {
				to = addr
			}
			seenAs(t, api.Server{Addr: addr, Zones: own[to]}, n, seen, addr)
		}
	}
}

func TestServerThatIsNotThere(t *testing.T) {
	n := bentNet()
	for seen := -1; seen < n.Seen; seen++ {
		for _, addr := range []int{math.MinInt, -1, 1, 3, 4, 6, 8, 9, math.MaxInt} {
			notSeen(t, "no server", n, seen, addr)
		}
	}
	for _, seen := range []int{math.MinInt, -3, -2, 3, 4, 8, math.MaxInt} {
		for _, addr := range []int{0, 2, 5, 7} {
			notSeen(t, "no vantage point", n, seen, addr)
		}
	}
	for many := range 9 {
		whole := api.Net{Servers: emptyServers(8), Seen: many}
		for seen := -1; seen < many; seen++ {
			seenAs(t, api.Server{Addr: 4}, whole, seen, 4)
		}
		notSeen(t, "one behind the last vantage point", whole, many, 4)
		notSeen(t, "below -1", whole, -2, 4)
	}
	for _, n := range append(mayNot(), tooMany()...) {
		for addr := range 8 {
			notSeen(t, "may not be", n, -1, addr)
			notSeen(t, "may not be", n, 0, addr)
		}
	}
	notSeen(t, "nothing", api.Net{}, -1, 0)
}

func TestExamples(t *testing.T) {
	n := api.Net{Servers: []api.Server{server(0, "a"), server(7, "b")}, Seen: 2}
	n, e := route.Bend(n, api.Bend{Seen: 1, From: 0, To: 7})
	if e != api.OK {
		t.Fatalf("Bend tells %d", e)
	}
	seenAs(t, api.Server{Addr: 0, Zones: server(7, "b").Zones}, n, 1, 0)
	seenAs(t, server(0, "a"), n, 0, 0)
	seenAs(t, server(0, "a"), n, -1, 0)
	if l := route.Bent(n); !slices.Equal(l, []int{1}) {
		t.Errorf("Bent is %v", l)
	}
}

// P13.3

func TestPutInPlace(t *testing.T) {
	n := bentNet()
	for k, s := range n.Servers {
		// a zone that is there
		for i, z := range s.Zones {
			z = zoneOf(z.Apex, "new")
			put(t, changed(n, func(n *api.Net) { n.Servers[k].Zones[i] = z }), n, s.Addr, z)
			z = api.Zone{Apex: z.Apex}
			put(t, changed(n, func(n *api.Net) { n.Servers[k].Zones[i] = z }), n, s.Addr, z)
		}
		// one that is not
		for _, apex := range []string{"", "0", "aa", "a.b", "b.b", "c", "bb", "zz", "z.z"} {
			z := api.Zone{Apex: apex}
			want := changed(n, func(n *api.Net) {
				n.Servers[k].Zones = append(n.Servers[k].Zones, z)
				slices.SortFunc(n.Servers[k].Zones, func(a, b api.Zone) int { return strings.Compare(a.Apex, b.Apex) })
			})
			put(t, want, n, s.Addr, z)
		}
	}
	// a server that is not there
	for _, addr := range []int{1, 3, 4, 6} {
		z := zoneOf("q", "new")
		want := changed(n, func(n *api.Net) {
			n.Servers = append(n.Servers, api.Server{Addr: addr, Zones: []api.Zone{z}})
			slices.SortFunc(n.Servers, func(a, b api.Server) int { return a.Addr - b.Addr })
		})
		put(t, want, n, addr, z)
	}
	for addr := range 8 {
		put(t, api.Net{Servers: []api.Server{server(addr, "a")}}, api.Net{}, addr, zoneOf("a", "at"+strconv.Itoa(addr)))
	}
}

func TestPutOfTheNinthZone(t *testing.T) {
	all := server(3, apexes(9)...).Zones
	for k := range all {
		others := append(slices.Clone(all[:k]), all[k+1:]...)
		n := api.Net{Servers: []api.Server{{Addr: 1}, {Addr: 3, Zones: others}}}
		notPut(t, "the ninth zone", api.ErrBound, n, 3, all[k])
		put(t, changed(n, func(n *api.Net) { n.Servers[0].Zones = all[k : k+1] }), n, 1, all[k])
		put(t, changed(n, func(n *api.Net) { n.Servers = append(n.Servers, api.Server{Addr: 4, Zones: all[k : k+1]}) }), n, 4, all[k])
		for i, z := range others {
			z.Recs = nil
			put(t, changed(n, func(n *api.Net) { n.Servers[1].Zones[i] = z }), n, 3, z)
		}
		seven := api.Net{Servers: []api.Server{{Addr: 3, Zones: slices.Delete(slices.Clone(all[:8]), min(k, 7), min(k, 7)+1)}}}
		put(t, api.Net{Servers: []api.Server{{Addr: 3, Zones: all[:8]}}}, seven, 3, all[min(k, 7)])
	}
}

func TestPutOfWhatMayNotBe(t *testing.T) {
	noAddresses := []int{math.MinInt, -1, 8, 9, 256, 1 << 32, math.MaxInt}
	for _, n := range mayNot() {
		for _, addr := range append(noAddresses, 0, 7) {
			notPut(t, "may not be", api.ErrArg, n, addr, zoneOf("a", "v"))
		}
		notPut(t, "may not be", api.ErrArg, n, 0, noZones()[7])
	}
	for _, n := range tooMany() {
		for _, addr := range append(noAddresses, 0, 7) {
			notPut(t, "too many", api.ErrBound, n, addr, zoneOf("a", "v"))
			notPut(t, "too many", api.ErrBound, n, addr, api.Zone{Apex: "a."})
		}
	}
	full := api.Net{Servers: []api.Server{server(3, apexes(8)...)}}
	for _, n := range []api.Net{{}, bentNet(), full} {
		for _, addr := range noAddresses {
			notPut(t, "no address", api.ErrArg, n, addr, zoneOf("a", "v"))
			notPut(t, "no address, no zone", api.ErrArg, n, addr, noZones()[7])
		}
		for k, z := range noZones() {
			want := api.ErrArg
			if k == 7 {
				want = api.ErrBound
			}
			for addr := range 8 {
				notPut(t, "no zone", want, n, addr, z)
			}
		}
	}
	notPut(t, "no zone, and the ninth", api.ErrArg, full, 3, api.Zone{Apex: "q."})
}

// P13.4

func TestBendInPlace(t *testing.T) {
	for _, n := range []api.Net{bentNet(), changed(bentNet(), func(n *api.Net) { n.Bends = nil }), {Servers: emptyServers(8), Seen: 8, Bends: allBends(8, 8)[:60]}} {
		for seen := range n.Seen {
			for _, from := range n.Servers {
				for _, to := range n.Servers {
					b := api.Bend{Seen: seen, From: from.Addr, To: to.Addr}
					if b.From == b.To {
						notBent(t, "to itself", api.ErrArg, n, b)
						continue
					}
					want := changed(n, func(n *api.Net) {
						n.Bends = slices.DeleteFunc(n.Bends, func(other api.Bend) bool { return other.Seen == b.Seen && other.From == b.From })
						n.Bends = append(n.Bends, b)
						slices.SortFunc(n.Bends, func(a, b api.Bend) int { return (a.Seen-b.Seen)*10 + a.From - b.From })
					})
					bent(t, want, n, b)
				}
			}
		}
	}
}

func TestBendOfWhatMayNotBe(t *testing.T) {
	n := bentNet()
	for _, seen := range []int{math.MinInt, -2, -1, 3, 4, 8, math.MaxInt} {
		notBent(t, "no vantage point", api.ErrArg, n, api.Bend{Seen: seen, From: 0, To: 7})
		notBent(t, "no vantage point, no server", api.ErrArg, n, api.Bend{Seen: seen, From: 1, To: 7})
		notMended(t, "no vantage point", api.ErrNone, n, api.Bend{Seen: seen, From: 0, To: 7})
	}
	for _, addr := range []int{math.MinInt, -1, 8, 9, math.MaxInt} {
		notBent(t, "from no address", api.ErrArg, n, api.Bend{From: addr, To: 7})
		notBent(t, "to no address", api.ErrArg, n, api.Bend{From: 0, To: addr})
		notBent(t, "from no server to no address", api.ErrArg, n, api.Bend{From: 1, To: addr})
		notBent(t, "from no address to no server", api.ErrArg, n, api.Bend{From: addr, To: 1})
		notBent(t, "from no address to it", api.ErrArg, n, api.Bend{From: addr, To: addr})
	}
	for addr := range 8 {
		notBent(t, "to itself", api.ErrArg, n, api.Bend{From: addr, To: addr})
	}
	for _, addr := range []int{1, 3, 4, 6} {
		notBent(t, "from no server", api.ErrNone, n, api.Bend{From: addr, To: 7})
		notBent(t, "to no server", api.ErrNone, n, api.Bend{From: 0, To: addr})
		notBent(t, "to no server, in place of another", api.ErrNone, n, api.Bend{From: 2, To: addr})
	}
	notBent(t, "of no servers", api.ErrNone, n, api.Bend{From: 1, To: 3})
	notBent(t, "of no vantage points", api.ErrArg, api.Net{Servers: emptyServers(8)}, api.Bend{From: 0, To: 1})
	for _, n := range mayNot() {
		for _, b := range []api.Bend{{From: 0, To: 7}, {From: 1, To: 7}, {Seen: -1}, {From: 2, To: 7}} {
			notBent(t, "may not be", api.ErrArg, n, b)
			notMended(t, "may not be", api.ErrArg, n, b)
		}
	}
	for _, n := range tooMany() {
		for _, b := range []api.Bend{{From: 0, To: 7}, {From: 1, To: 3}, {Seen: -1}} {
			notBent(t, "too many", api.ErrBound, n, b)
			notMended(t, "too many", api.ErrBound, n, b)
		}
	}
}

func TestMend(t *testing.T) {
	for _, n := range []api.Net{bentNet(), {Servers: emptyServers(8), Seen: 8, Bends: allBends(8, 8)}, {Servers: emptyServers(2), Seen: 1, Bends: []api.Bend{{To: 1}}}} {
		for k, b := range n.Bends {
			want := changed(n, func(n *api.Net) { n.Bends = slices.Delete(n.Bends, k, k+1) })
			for _, to := range []int{b.To, math.MinInt, -1, 0, 3, 8, b.From} {
				b.To = to
				mended(t, want, n, b)
			}
			notMended(t, "twice", api.ErrNone, want, b)
		}
	}
	n := bentNet()
	for _, b := range []api.Bend{{}, {Seen: 0, From: 0, To: 7}, {Seen: 1, From: 0, To: 7}, {Seen: 1, From: 2, To: 7}, {Seen: 2, From: 2, To: 7}, {Seen: 2, From: 1}, {Seen: 2, From: -1}, {Seen: 2, From: 8}, {Seen: 3, From: 0, To: 7}} {
		notMended(t, "not there", api.ErrNone, n, b)
	}
}

// P13.5

func TestBent(t *testing.T) {
	bentBy := func(want []int, seen ...int) {
		t.Helper()
		var n api.Net
		for _, s := range seen {
			n.Bends = append(n.Bends, api.Bend{Seen: s})
		}
		was := slices.Clone(n.Bends)
		if l := route.Bent(n); !slices.Equal(l, want) || !slices.Equal(n.Bends, was) {
			t.Errorf("Bent(%v) is %v, not %v", n, l, want)
		}
	}
	bentBy(nil)
	bentBy([]int{3}, 3)
	bentBy([]int{0, 2}, 0, 2, 2, 2)
	// Bends of nets that may not be count as they are.
	bentBy([]int{0, 2, 5}, 5, 2, 0)
	bentBy([]int{1, 2}, 2, 1, 2, 1, 1)
	bentBy([]int{math.MinInt, -1, 0, 8, math.MaxInt}, 8, math.MaxInt, -1, 0, math.MinInt, 8, -1)
	if l := route.Bent(bentNet()); !slices.Equal(l, []int{0, 2}) {
		t.Errorf("Bent is %v", l)
	}
}

func TestClock(t *testing.T) {
	says := func(want int, n api.Net, who string, now int) {
		t.Helper()
		if told := route.Clock(n, who, now); told != want {
			t.Errorf("Clock(%v, %q, %d) is %d, not %d", n.Clocks, who, now, told, want)
		}
	}
	n := bentNet()
	for _, now := range []int{0, 1, 4, 5, 6, 100, api.MaxTime} {
		says(max(0, now-5), n, "anna", now)
		says(now+5, n, "ben", now)
		for _, who := range []string{"cy", "", "a", "ann", "annaa", "Anna", "dora", "\xff"} {
			says(now, n, who, now)
		}
	}
	for _, now := range []int{math.MinInt + 5, -100, -6} {
		for _, who := range []string{"anna", "ben", "cy", "dora"} {
			says(0, n, who, now)
		}
	}
	says(0, n, "ben", -5)
	says(1, n, "ben", -4)
	says(0, n, "dora", -1)
	says(0, n, "dora", math.MinInt)
	says(math.MaxInt, n, "dora", math.MaxInt)
	says(math.MaxInt-5, n, "anna", math.MaxInt)
	// Differences go round in 64 bits.
	says(0, n, "ben", math.MaxInt-4)
	says(math.MaxInt, n, "ben", math.MaxInt-5)
	says(math.MaxInt-4, n, "anna", math.MinInt)
	says(math.MaxInt, n, "anna", math.MinInt+4)
	// Clocks of nets that may not be count as they are, the first one of each.
	strange := api.Net{Seen: -1, Clocks: []api.Clock{{Who: "z", By: 100}, {Who: "", By: 7}, {Who: "a", By: -100}, {Who: "z", By: 1}, {Who: "b", By: math.MaxInt}, {Who: "c", By: math.MinInt}}}
	says(110, strange, "z", 10)
	says(17, strange, "", 10)
	says(0, strange, "a", 10)
	says(1, strange, "a", 101)
	says(0, strange, "b", 1)
	says(math.MaxInt, strange, "b", 0)
	says(math.MaxInt, strange, "c", -1)
	says(0, strange, "c", 7)
	says(10, strange, "q", 10)
	says(0, api.Net{}, "a", -1)
	says(3, api.Net{}, "", 3)
}

// P13.6

func TestWhatBendsDo(t *testing.T) {
	n := api.Net{Servers: []api.Server{server(0, "a", "b"), server(2, "a"), server(5), server(7, "b", "z")}, Seen: 3, Clocks: manyClocks(3)}
	for seen := range n.Seen {
		for _, from := range n.Servers {
			for _, to := range n.Servers {
				b := api.Bend{Seen: seen, From: from.Addr, To: to.Addr}
				if b.From == b.To {
					continue
				}
				redirected, e := route.Bend(n, b)
				if e != api.OK {
					t.Fatalf("Bend(%v) tells %d", b, e)
				}
				for looks := -1; looks < n.Seen; looks++ {
					for _, s := range n.Servers {
						want := s
						if looks == b.Seen && s.Addr == b.From {
							want.Zones = to.Zones
						}
						seenAs(t, want, redirected, looks, s.Addr)
					}
				}
				if l := route.Bent(redirected); !slices.Equal(l, []int{seen}) {
					t.Errorf("Bent is %v, not %d", l, seen)
				}
				mended(t, n, redirected, b)
			}
		}
	}
}

func TestWhatIsPutIsSeen(t *testing.T) {
	n := bentNet()
	for addr := range 8 {
		z := zoneOf("new", "new")
		more, e := route.Put(n, addr, z)
		if e != api.OK {
			t.Fatalf("Put at %d tells %d", addr, e)
		}
		if s, ok := route.Server(more, -1, addr); !ok || !slices.ContainsFunc(s.Zones, func(other api.Zone) bool { return sameZone(other, z) }) {
			t.Errorf("what is put at %d is not seen there: %v", addr, s)
		}
		if route.Check(more) != api.OK {
			t.Errorf("Put at %d makes %v", addr, more)
		}
	}
}

// R2, R6

// spoiled writes into all that a net's lists have room for.
func spoiled(n api.Net) {
	for _, s := range n.Servers {
		for _, z := range s.Zones {
			clear(z.Recs[:cap(z.Recs)])
		}
		clear(s.Zones[:cap(s.Zones)])
	}
	clear(n.Servers[:cap(n.Servers)])
	clear(n.Bends[:cap(n.Bends)])
	clear(n.Clocks[:cap(n.Clocks)])
}

// roomy is a net whose lists have room for more.
func roomy() api.Net {
	n := copied(bentNet())
	for k := range n.Servers {
		for i := range n.Servers[k].Zones {
			n.Servers[k].Zones[i].Recs = append(n.Servers[k].Zones[i].Recs, api.Rec{}, api.Rec{})[:1]
		}
		n.Servers[k].Zones = append(n.Servers[k].Zones, api.Zone{}, api.Zone{})[:len(n.Servers[k].Zones)]
	}
	n.Servers = append(n.Servers, api.Server{}, api.Server{})[:4]
	n.Bends = append(n.Bends, api.Bend{}, api.Bend{})[:4]
	n.Clocks = append(n.Clocks, api.Clock{}, api.Clock{})[:3]
	return n
}

func TestNothingIsChangedOrShared(t *testing.T) {
	z := zoneOf("new", "new")
	calls := []func(n api.Net) api.Net{
		func(n api.Net) api.Net { told, _ := route.Put(n, 5, z); return told },
		func(n api.Net) api.Net { told, _ := route.Put(n, 4, z); return told },
		func(n api.Net) api.Net { told, _ := route.Put(n, 0, zoneOf("a", "new")); return told },
		func(n api.Net) api.Net { told, _ := route.Bend(n, api.Bend{Seen: 1, From: 0, To: 7}); return told },
		func(n api.Net) api.Net { told, _ := route.Bend(n, api.Bend{Seen: 0, From: 2, To: 5}); return told },
		func(n api.Net) api.Net { told, _ := route.Mend(n, api.Bend{Seen: 0, From: 2}); return told },
		func(n api.Net) api.Net {
			s, _ := route.Server(n, 2, 0)
			own, _ := route.Server(n, 0, 0)
			return api.Net{Servers: []api.Server{s, own}}
		},
	}
	for k, call := range calls {
		n := roomy()
		told := call(n)
		if !same(n, bentNet()) || !sameZone(z, zoneOf("new", "new")) {
			t.Errorf("call %d changes what is handed in", k)
		}
		was := copied(told)
		spoiled(n)
		clear(z.Recs)
		if !same(told, was) {
			t.Errorf("what call %d has told changes with what was handed in", k)
		}
		n, z = roomy(), zoneOf("new", "new")
		told = call(n)
		spoiled(told)
		if !same(n, bentNet()) || !sameZone(z, zoneOf("new", "new")) {
			t.Errorf("what was handed in changes with what call %d has told", k)
		}
	}
	n := bentNet()
	clear(route.Bent(n))
	if !same(n, bentNet()) {
		t.Error("a net changes with what Bent has told")
	}
}
