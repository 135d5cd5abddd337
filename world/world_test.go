package world_test

import (
	"math"
	"slices"
	"strings"
	"testing"

	"greatseal/api"
	"greatseal/cert"
	"greatseal/logd"
	"greatseal/policy"
	"greatseal/quorum"
	"greatseal/rule"
	"greatseal/sign"
	"greatseal/signer"
	"greatseal/world"
)

const text1 = "allow w { a, *.a, b; life 50; most 3 per 10; } refuse no { *.x.a; } allow u { c; key 5; life 1000; }"

func rulesOf(text string) []api.Rule {
	l, _, _ := rule.Parse([]byte(text))
	return l
}

// begin is a world that is new: a crew of 2 of 3, three vantage points of which two are needed, three clients.
func begin(t *testing.T) api.World {
	t.Helper()
	w, e := world.New([]byte("seed"), 2, 3, 3, 2, rulesOf(text1), []string{"ann", "bob", "cid"})
	if e != api.OK {
		t.Fatal(e)
	}
	return w
}

// but is a world of its own, in which something was changed.
func but(w api.World, change func(w *api.World)) api.World {
	w = copied(w)
	change(&w)
	return w
}

// The doings.

func own(who, name string) api.Do       { return api.Do{Kind: api.OwnDo, Who: who, Name: name} }
func put(who string, r api.Rec) api.Do  { return api.Do{Kind: api.PutDo, Who: who, Rec: r} }
func drop(who string, r api.Rec) api.Do { return api.Do{Kind: api.DropDo, Who: who, Rec: r} }
func fake(r api.Rec) api.Do             { return api.Do{Kind: api.FakeDo, Rec: r} }
func join(who string) api.Do            { return api.Do{Kind: api.JoinDo, Who: who} }
func token(who string, n int) api.Do    { return api.Do{Kind: api.TokenDo, Who: who, N: n} }
func look(who string, n int) api.Do     { return api.Do{Kind: api.LookDo, Who: who, N: n} }
func issues(who string, n int) api.Do   { return api.Do{Kind: api.IssueDo, Who: who, N: n} }
func revokes(who string, n int) api.Do  { return api.Do{Kind: api.RevokeDo, Who: who, N: n} }
func bad(n int) api.Do                  { return api.Do{Kind: api.BadDo, N: n} }
func crash(n int, key uint64) api.Do    { return api.Do{Kind: api.CrashDo, N: n, Key: key} }
func back(n int) api.Do                 { return api.Do{Kind: api.BackDo, N: n} }
func split(n int) api.Do                { return api.Do{Kind: api.SplitDo, N: n} }
func merge(n int) api.Do                { return api.Do{Kind: api.MergeDo, N: n} }
func tick(n int) api.Do                 { return api.Do{Kind: api.TickDo, N: n} }
func fetch(who string, n int) api.Do    { return api.Do{Kind: api.FetchDo, Who: who, N: n} }
func day(who string) api.Do             { return api.Do{Kind: api.DayDo, Who: who} }
func visit(who, name string, n int) api.Do {
	return api.Do{Kind: api.VisitDo, Who: who, Name: name, N: n}
}
func talk(who, name string) api.Do { return api.Do{Kind: api.TalkDo, Who: who, Name: name} }
func watch(n int) api.Do           { return api.Do{Kind: api.WatchDo, N: n} }

func bend(seen, from, to int) api.Do {
	return api.Do{Kind: api.BendDo, N: 1, Bend: api.Bend{Seen: seen, From: from, To: to}}
}

func mend(seen, from, to int) api.Do {
	return api.Do{Kind: api.BendDo, N: 0, Bend: api.Bend{Seen: seen, From: from, To: to}}
}

func orders(who string, life int, all ...string) api.Do {
	return api.Do{Kind: api.OrderDo, Who: who, Names: all, Key: 16, N: life}
}

func rogue(key uint64, all ...string) api.Do {
	return api.Do{Kind: api.RogueDo, Names: all, Key: key}
}

// does something, which has to tell that, and to be as the chapter says.
func does(t *testing.T, what string, w api.World, d api.Do, e api.Errno, n int) api.World {
	t.Helper()
	was, asked := copied(w), copied(d)
	x, told := world.Do(w, d)
	if told.E != e || told.N != n {
		t.Errorf("%s: %v tells %v, not %d, %d", what, d, told, e, n)
	}
	y, want := wanted(was, d)
	if told != want {
		t.Errorf("%s: %v tells %v, by the chapter's words %v", what, d, told, want)
	}
	if !same(x, y) {
		t.Errorf("%s: of %v the world is not as the chapter says, but %v", what, d, x)
	}
	if !same(w, was) || !same(d, asked) {
		t.Errorf("%s: %v changes what was handed in", what, d)
	}
	if told.E != api.OK && (d.Kind != api.LookDo || told.E != api.ErrVotes) && !same(x, was) {
		t.Errorf("%s: %v tells %v, but changes the world", what, d, told)
	}
	return x
}

// doesAll does one thing behind the other, all of which tell OK.
func doesAll(t *testing.T, w api.World, l ...api.Do) api.World {
	t.Helper()
	for _, d := range l {
		x, told := world.Do(w, d)
		if told.E != api.OK {
			t.Fatalf("%v tells %v", d, told)
		}
		w = does(t, "one of several", w, d, api.OK, told.N)
		if !same(w, x) {
			t.Errorf("%v does not do the same twice", d)
		}
	}
	return w
}

// grown is a world in which ann has a, bob has b, both have accounts, and ann has a certificate for a, and one that is on its way.
func grown(t *testing.T) api.World {
	t.Helper()
	return doesAll(t, begin(t), own("ann", "a"), own("bob", "b"), join("ann"), join("bob"), orders("ann", 40, "a"), token("ann", 1), look("ann", 1), issues("ann", 1), tick(3), orders("bob", 30, "b"), token("bob", 2), orders("ann", 30, "y.a"))
}

// issued is grown, in which logs have taken in, and clients have fetched.
func issued(t *testing.T) api.World {
	t.Helper()
	return doesAll(t, grown(t), tick(20), fetch("ann", 0), fetch("ann", 1), fetch("bob", 0), fetch("bob", 1))
}

func noNumbers() []int {
	return []int{math.MinInt, -2, -1, api.MaxTime + 1, api.MaxTime + 2, math.MaxInt}
}

func last[T any](l []T) T { return l[len(l)-1] }

// P32.1

func newLogs(seed string) []api.Log {
	one, _ := logd.New(0, []byte(seed+"\x00"), 20)
	two, _ := logd.New(1, []byte(seed+"\x01"), 20)
	return []api.Log{one, two}
}

// began is what New has to tell, as the chapter says.
func began(seed string, t, n, seen, need int, rules []api.Rule, clients []string) api.World {
	crew, shares, _ := quorum.Deal([]byte(seed), t, n)
	table, _ := policy.Compile(rules)
	w := api.World{
		Net:    api.Net{Servers: []api.Server{{Addr: 0, Zones: []api.Zone{{}}}, {Addr: 1}, {Addr: 7, Zones: []api.Zone{{}}}}, Seen: seen},
		Caches: make([]api.Cache, seen), Need: need, Policy: table, Crew: crew, Logs: newLogs(seed),
		Root: api.Cert{Issuer: "greatseal", Subject: "greatseal", Key: crew.Key, Until: api.MaxTime, Ca: true, Depth: 2},
	}
	body, _ := cert.Body(w.Root)
	w.Root.Sig, _ = sign.Sign(sign.Secret([]byte(seed)), body)
	for _, s := range shares {
		w.Signers = append(w.Signers, api.Signer{Share: s, Up: true})
	}
	var keys []api.Key
	for _, l := range w.Logs {
		key, _ := logd.Public(l)
		keys = append(keys, key)
	}
	for at, who := range clients {
		w.Clients = append(w.Clients, api.Client{Who: who, Roots: []api.Cert{w.Root}, Logs: keys, View: []int{0, 1, 0, 1}[at]})
	}
	return w
}

func TestNew(t *testing.T) {
	for _, x := range []struct {
		seed             string
		t, n, seen, need int
		rules            string
		clients          []string
	}{
		{"seed", 2, 3, 3, 2, text1, []string{"ann", "bob", "cid"}},
		{"", 1, 1, 1, 1, "", []string{"x"}},
		{"another", 7, 7, 8, 8, "refuse all { *.a; }", []string{"~", "!", strings.Repeat("z", 64), "Greatseal"}},
		{"x\x00", 1, 7, 8, 1, text1, []string{"b", "a"}},
	} {
		w, e := world.New([]byte(x.seed), x.t, x.n, x.seen, x.need, rulesOf(x.rules), x.clients)
		if want := began(x.seed, x.t, x.n, x.seen, x.need, rulesOf(x.rules), x.clients); !same(w, want) || e != api.OK {
			t.Errorf("New of %v is %v, %d, not %v", x, w, e, want)
		}
		if e := world.Check(w); e != api.OK {
			t.Errorf("Check of a new world is %d", e)
		}
		body, _ := cert.Body(w.Root)
		if e := sign.Check(w.Crew.Key, body, w.Root.Sig); e != api.OK {
			t.Errorf("the root's signature is not right: %d", e)
		}
	}
}

func TestNewOfWhatMayNotBe(t *testing.T) {
	clash := rulesOf("allow w { a, *.a, b; life 50; } refuse no { *.x.a; }")
	clash[1].Pats = []string{"b"}
	wrong := rulesOf(text1)
	wrong[0].LifeMax = 0
	many := make([]api.Rule, 33)
	for k := range many {
		name := "r" + strings.Repeat("x", k%15) + string(rune('a'+k/15))
		many[k] = api.Rule{Name: name, Pats: []string{name}}
	}
	ok, fine := []string{"ann"}, rulesOf(text1)
	is := func(what string, t1, n, seen, need int, rules []api.Rule, clients []string, want api.Errno) {
		t.Helper()
		if w, e := world.New([]byte("seed"), t1, n, seen, need, rules, clients); !same(w, api.World{}) || e != want {
			t.Errorf("%s: New is %v, %d, not %d", what, w, e, want)
		}
	}
	// Neither a crew, nor rules, are looked at then.
	for _, rules := range [][]api.Rule{fine, clash, many} {
		for _, size := range [][2]int{{2, 3}, {0, 0}} {
			for _, seen := range []int{math.MinInt, -1, 0, 9, math.MaxInt} {
				is("vantage points", size[0], size[1], seen, 1, rules, ok, api.ErrArg)
				is("vantage points, all of which are needed", size[0], size[1], seen, seen, rules, ok, api.ErrArg)
			}
			for _, need := range []int{math.MinInt, -1, 0, 4, 5, math.MaxInt} {
				is("needed", size[0], size[1], 3, need, rules, ok, api.ErrArg)
			}
			for _, clients := range [][]string{nil, {}, {"a", "b", "c", "d", "e"}, {"a", "a"}, {"a", "b", "a"}, {"b", "c", "d", "d"}, {""}, {"a", ""}, {"a b"}, {"a", "b\x7f"}, {" "}, {strings.Repeat("z", 65)}, {"a\n"}, {"\xc3\xa4"}} {
				is("clients", size[0], size[1], 3, 2, rules, clients, api.ErrArg)
			}
		}
	}
	for _, size := range [][2]int{{0, 3}, {4, 3}, {-1, 3}, {1, 8}, {8, 8}, {0, 0}, {1, math.MaxInt}, {math.MinInt, math.MinInt}} {
		_, _, e := quorum.Deal([]byte("seed"), size[0], size[1])
		if e == api.OK {
			t.Fatal(size)
		}
		is("a crew", size[0], size[1], 3, 2, fine, ok, e)
		is("a crew, and rules that clash", size[0], size[1], 3, 2, clash, ok, e)
	}
	is("rules that clash", 2, 3, 3, 2, clash, ok, api.ErrClash)
	is("rules that may not be", 2, 3, 3, 2, wrong, ok, api.ErrArg)
	is("too many rules", 2, 3, 3, 2, many, ok, api.ErrBound)
}

func TestKeys(t *testing.T) {
	is := func(what string, w api.World, want ...api.Key) {
		t.Helper()
		if keys := world.Keys(w); !slices.Equal(keys, want) {
			t.Errorf("%s: Keys is %v, not %v", what, keys, want)
		}
	}
	w := grown(t)
	one, _ := logd.Public(w.Logs[0])
	two, _ := logd.Public(w.Logs[1])
	if one.Log != 0 || two.Log != 1 || one.Delay != 20 || one.Key == two.Key {
		t.Fatal(one, two)
	}
	is("a world", w, one, two)
	is("a new one", begin(t), one, two)
	is("one without logs", api.World{})
	is("one with logs alone", api.World{Logs: []api.Log{w.Logs[1], w.Logs[0], w.Logs[1]}}, two, one, two)
	is("one with logs that may not be", api.World{Logs: []api.Log{{}, w.Logs[1], {Id: -1, Key: 4}, w.Logs[0], {Key: api.R}}}, two, one)
	three := w.Logs[0]
	three.Id, three.Delay = 9, 0
	is("one with another log", api.World{Logs: []api.Log{three}}, api.Key{Log: 9, Key: one.Key})
}

// P32.2

// mayNot change a world, so that it may not be.
func mayNot() []func(w *api.World) {
	var l []func(w *api.World)
	with := func(change func(w *api.World)) { l = append(l, change) }
	for _, n := range noNumbers() {
		with(func(w *api.World) { w.Now = n })
		with(func(w *api.World) { w.Session = n })
	}
	for _, n := range []int{math.MinInt, -1, 0, 4, math.MaxInt} {
		with(func(w *api.World) { w.Need = n })
	}
	with(func(w *api.World) { w.Net.Seen = 9 })
	with(func(w *api.World) { w.Net.Seen = 2 })
	with(func(w *api.World) { w.Net.Seen = 4 })
	with(func(w *api.World) { w.Net.Servers[0].Addr = 1 })
	with(func(w *api.World) { w.Net.Bends = []api.Bend{{Seen: 0, From: 0, To: 0}} })
	with(func(w *api.World) { w.Net.Clocks = []api.Clock{{Who: "ann", By: 6}} })
	with(func(w *api.World) { w.Net.Clocks = manyClocks(65) })
	with(func(w *api.World) { w.Caches = w.Caches[1:] })
	with(func(w *api.World) { w.Caches = append(w.Caches, api.Cache{}) })
	with(func(w *api.World) { w.Caches[2].L = []api.Kept{{}} })
	with(func(w *api.World) { w.Caches[0].L = []api.Kept{{Name: "a", Kind: 1, Until: -1}} })
	with(func(w *api.World) { w.Front.Serial = -1 })
	with(func(w *api.World) { w.Front.Accounts[0].Id = 2 })
	with(func(w *api.World) { w.Policy.Nodes = w.Policy.Nodes[1:] })
	with(func(w *api.World) { w.Policy = api.Table{} })
	with(func(w *api.World) { w.Spent[0].Many = 0 })
	with(func(w *api.World) { w.Spent = append(w.Spent, w.Spent[0]) })
	with(func(w *api.World) { w.Crew.Key = 4 })
	with(func(w *api.World) { w.Crew = api.Crew{} })
	with(func(w *api.World) { w.Crew.T = 1 })
	with(func(w *api.World) { w.Revs.Gone = []int{9} })
	with(func(w *api.World) { w.Revs.Live = make([]int, 2) })
	with(func(w *api.World) { w.Signers = w.Signers[:2] })
	with(func(w *api.World) { w.Signers = append(w.Signers, w.Signers[2]) })
	with(func(w *api.World) { w.Signers[0], w.Signers[1] = w.Signers[1], w.Signers[0] })
	with(func(w *api.World) { w.Signers[1] = w.Signers[0] })
	with(func(w *api.World) { w.Signers[2].Share.Id = 4 })
	with(func(w *api.World) { w.Signers[0].Share.X = api.R })
	with(func(w *api.World) { w.Signers[0].Done = nil })
	with(func(w *api.World) { w.Signers[2].Store.Open = make([]byte, 65537) })
	with(func(w *api.World) { w.Logs = nil })
	with(func(w *api.World) { w.Logs = w.Logs[:1] })
	with(func(w *api.World) { w.Logs = append(w.Logs, api.Log{Id: 2, Key: 5}) })
	with(func(w *api.World) { slices.Reverse(w.Logs) })
	with(func(w *api.World) { w.Logs[0].Id = 1 })
	with(func(w *api.World) { w.Logs[1].Id = 0 })
	with(func(w *api.World) { w.Logs[1].Id = 2 })
	with(func(w *api.World) { w.Logs[0].Key = 0 })
	with(func(w *api.World) { w.Logs[1].Delay = 1001 })
	with(func(w *api.World) { w.Root = api.Cert{} })
	with(func(w *api.World) { w.Root.Key = 0 })
	with(func(w *api.World) { w.Root.Until = 0 })
	with(func(w *api.World) { w.Certs[0].Names = nil })
	with(func(w *api.World) { w.Certs = append(w.Certs, api.Cert{}) })
	with(func(w *api.World) { w.Clients = nil })
	with(func(w *api.World) { w.Clients[1].Who = "ann" })
	with(func(w *api.World) { w.Clients[2].Who = "bob" })
	with(func(w *api.World) { w.Clients[0].Who = "" })
	with(func(w *api.World) { w.Clients[2].View = 2 })
	with(func(w *api.World) { w.Clients[1].Pool.L = []api.Head{{}} })
	with(func(w *api.World) { w.Clients[1].Cascade.Day = -1 })
	with(func(w *api.World) { w.Clients[0].Roots = nil })
	with(func(w *api.World) {
		for _, who := range []string{"d", "e"} {
			w.Clients = append(w.Clients, api.Client{Who: who, Roots: w.Clients[0].Roots})
		}
	})
	return l
}

func manyClocks(many int) []api.Clock {
	var l []api.Clock
	for k := range many {
		l = append(l, api.Clock{Who: "w" + string(rune('!'+k)), By: k%11 - 5})
	}
	return l
}

// may change a world, so that it still may be.
func may() []func(w *api.World) {
	return []func(w *api.World){
		func(w *api.World) {},
		func(w *api.World) { w.Now, w.Session = api.MaxTime, api.MaxTime },
		func(w *api.World) { w.Now, w.Session = 0, 0 },
		func(w *api.World) { w.Need = 1 },
		func(w *api.World) { w.Need = 3 },
		func(w *api.World) { w.Net.Seen, w.Need, w.Caches = 8, 8, make([]api.Cache, 8) },
		func(w *api.World) { w.Net.Seen, w.Need, w.Caches = 1, 1, make([]api.Cache, 1) },
		func(w *api.World) { w.Net.Servers = nil },
		func(w *api.World) { w.Net.Clocks = manyClocks(64) },
		func(w *api.World) { w.Caches[1].L = nil },
		func(w *api.World) { w.Front = api.Front{} },
		func(w *api.World) { w.Front.Serial = api.MaxTime },
		func(w *api.World) { w.Spent = nil },
		func(w *api.World) { w.Policy.Rules, w.Policy.Nodes = nil, []api.Node{{Here: -1, Below: -1}} },
		func(w *api.World) { w.Revs = api.Revs{} },
		func(w *api.World) { w.Revs.Gone = []int{1} },
		func(w *api.World) { w.Signers[0].Up, w.Signers[0].Done = false, nil },
		func(w *api.World) { w.Signers[2].Bad = true },
		// Whose shares they are is another question.
		func(w *api.World) { w.Signers[1].Share.X = 5 },
		func(w *api.World) { w.Logs[0].Key, w.Logs[0].Delay = 5, 0 },
		func(w *api.World) { w.Root = w.Certs[0] },
		func(w *api.World) { w.Root.Sig = api.Sig{} },
		func(w *api.World) { w.Certs = nil },
		func(w *api.World) { w.Certs = append(w.Certs, w.Certs[0], w.Root) },
		func(w *api.World) { w.Clients = w.Clients[2:] },
		func(w *api.World) {
			w.Clients = append(w.Clients, api.Client{Who: "d", Roots: w.Clients[0].Roots})
		},
		// Nothing is asked of these.
		func(w *api.World) { w.Books = []api.Booked{{At: -1}} },
		func(w *api.World) { w.Reports = []api.Report{{Kind: -1}} },
		func(w *api.World) { w.Events = []api.Event{{Kind: -1, At: math.MinInt}, {Kind: 99}} },
	}
}

func TestCheck(t *testing.T) {
	for _, w := range []api.World{begin(t), grown(t), issued(t)} {
		if e := world.Check(w); e != api.OK {
			t.Errorf("Check is %d", e)
		}
	}
	for k, change := range may() {
		if e := world.Check(but(grown(t), change)); e != api.OK {
			t.Errorf("Check of a world that may be, %d, is %d", k, e)
		}
	}
	for k, change := range mayNot() {
		w := but(grown(t), change)
		if e := world.Check(w); e != api.ErrArg {
			t.Errorf("Check of a world that may not be, %d, is %d", k, e)
		}
		// Nothing is done in it.
		for kind := range 25 {
			does(t, "a world that may not be", w, api.Do{Kind: kind, Who: "ann", Name: "bob", N: 1}, api.ErrArg, 0)
		}
		does(t, "a world that may not be", w, api.Do{Kind: api.TickDo}, api.ErrArg, 0)
	}
	if e := world.Check(api.World{}); e != api.ErrArg {
		t.Errorf("Check of nothing is %d", e)
	}
}

func TestCheckOfAFullCrew(t *testing.T) {
	w, e := world.New([]byte("seed"), 7, 7, 8, 8, nil, []string{"a", "b", "c", "d"})
	if e != api.OK || world.Check(w) != api.OK {
		t.Fatal(e)
	}
	for at := range 7 {
		x := but(w, func(w *api.World) { w.Signers[at], _ = signer.New(api.Share{Id: at%7 + 2, X: 1}) })
		if at == 6 {
			x.Signers[at].Share.Id = 1
		}
		if e := world.Check(x); e != api.ErrArg {
			t.Errorf("Check with another one's number at %d is %d", at, e)
		}
	}
}

// P32.3: what is told of all kinds

func TestDoOfNoKind(t *testing.T) {
	for _, kind := range []int{math.MinInt, -1, 0, 24, 25, math.MaxInt} {
		does(t, "no kind", grown(t), api.Do{Kind: kind, Who: "ann", Name: "a", N: 1}, api.ErrArg, 0)
	}
}

func TestRun(t *testing.T) {
	l := []api.Do{own("ann", "a"), join("ann"), orders("ann", 40, "a"), join("ann"), look("bob", 1), look("ann", 1), {}, token("ann", 1), look("ann", 1), issues("ann", 1), visit("ann", "a", 1), tick(20), watch(0)}
	w := begin(t)
	was := copied(w)
	x, told := world.Run(w, l)
	want := []api.Told{{}, {N: 1}, {N: 1}, {N: 1}, {E: api.ErrAccount}, {E: api.ErrVotes}, {E: api.ErrArg}, {}, {N: 3}, {N: 1}, {E: api.ErrLog}, {}, {}}
	if !slices.Equal(told, want) {
		t.Errorf("Run tells %v, not %v", told, want)
	}
	y := w
	for _, d := range l {
		y, _ = world.Do(y, d)
	}
	if !same(x, y) {
		t.Errorf("Run makes another world than Do")
	}
	if !same(w, was) {
		t.Errorf("Run changes what it is handed")
	}
	for _, w := range []api.World{begin(t), {}, {Now: -1}} {
		if x, told := world.Run(w, nil); !same(x, w) || len(told) != 0 {
			t.Errorf("Run of nothing is %v, %v", x, told)
		}
	}
	if x, told := world.Run(api.World{Now: -1}, l[:2]); !same(x, api.World{Now: -1}) || !slices.Equal(told, []api.Told{{E: api.ErrArg}, {E: api.ErrArg}}) {
		t.Errorf("Run in a world that may not be is %v, %v", x, told)
	}
}

// R2

// roomy is a value whose lists have room behind them.
func roomy(w api.World) api.World {
	w = copied(w)
	w.Caches, w.Spent, w.Signers, w.Logs = slices.Grow(w.Caches, 9), slices.Grow(w.Spent, 9), slices.Grow(w.Signers, 9), slices.Grow(w.Logs, 9)
	w.Certs, w.Clients, w.Books, w.Reports, w.Events = slices.Grow(w.Certs, 9), slices.Grow(w.Clients, 9), slices.Grow(w.Books, 9), slices.Grow(w.Reports, 9), slices.Grow(w.Events, 9)
	w.Net.Servers, w.Front.Auths, w.Front.Orders, w.Revs.Live = slices.Grow(w.Net.Servers, 9), slices.Grow(w.Front.Auths, 9), slices.Grow(w.Front.Orders, 9), slices.Grow(w.Revs.Live, 9)
	return w
}

// doings are some of each kind that change something in issued.
func doings() []api.Do {
	text := api.Rec{Name: "x.a", Kind: api.TextK, Value: "t", Life: 9}
	return []api.Do{own("bob", "a"), own("bob", "c"), put("ann", text), bend(1, 0, 7), fake(text), join("cid"), join("ann"), orders("ann", 5, "a", "z.a"), token("ann", 3), look("bob", 2), issues("bob", 2), revokes("ann", 1), bad(1), crash(2, 5), back(2), split(0), merge(0), tick(30), fetch("cid", 0), day("cid"), visit("ann", "a", 1), talk("ann", "cid"), talk("bob", "ann"), watch(0), watch(1), rogue(4, "q.a")}
}

func TestNothingIsChangedOrShared(t *testing.T) {
	w := roomy(issued(t))
	was := copied(w)
	// Two that go on from one world do not get in each other's way, though what stayed may be shared.
	for _, first := range doings() {
		x, _ := world.Do(w, first)
		kept := copied(x)
		for _, second := range doings() {
			y, told := world.Do(w, second)
			if z, other := wanted(was, second); !same(y, z) || told != other {
				t.Errorf("%v does something else behind %v", second, first)
			}
		}
		if !same(x, kept) {
			t.Errorf("what %v has told changes", first)
		}
	}
	if !same(w, was) {
		t.Errorf("a world changes in which something is done")
	}
	d := orders("ann", 5, "a", "z.a")
	x, _ := world.Do(w, d)
	kept := copied(x)
	d.Names[0], d.Names[1] = "q", "r"
	if !same(x, kept) {
		t.Errorf("a world changes with the names that were ordered")
	}
	seed, rules, clients := slices.Grow([]byte("seed"), 9), rulesOf(text1), []string{"ann", "bob", "cid"}
	x, e := world.New(seed, 2, 3, 3, 2, rules, clients)
	if e != api.OK || seed[:5][4] != 0 || !rule.Same(rules, rulesOf(text1)) {
		t.Errorf("New changes what it is handed")
	}
	rules[0].Pats[0], rules[1].Name, clients[0], seed[0] = "q", "q", "q", 'q'
	if !same(x, begin(t)) {
		t.Errorf("a new world changes with what was handed in")
	}
	keys := world.Keys(x)
	keys[0].Log = 9
	if !same(x, begin(t)) {
		t.Errorf("a world changes with its keys")
	}
}

// The chapter's examples

func TestExamples(t *testing.T) {
	w := begin(t)
	if len(w.Signers) != 3 || len(w.Logs) != 2 || len(w.Events) != 0 {
		t.Errorf("a new world is %v", w)
	}
	text := api.Rec{Name: "x.a", Kind: api.TextK, Value: "t", Life: 9}
	w = doesAll(t, w, own("ann", "a"), put("ann", text))
	does(t, "not yet bob's", w, put("bob", text), api.ErrState, 0)
	w = doesAll(t, w, own("bob", "a"), put("bob", text))
	does(t, "no longer ann's", w, put("ann", text), api.ErrState, 0)
	if !same(w.Events, []api.Event{{Kind: 1, Who: "ann", Name: "a"}, {Kind: 1, Who: "bob", Name: "a"}}) {
		t.Errorf("the events are %v", w.Events)
	}
}
