package world_test

import (
	"fmt"
	"math"
	"slices"
	"testing"

	"greatseal/api"
	"greatseal/cascade"
	"greatseal/cert"
	"greatseal/cyclic"
	"greatseal/gossip"
	"greatseal/logd"
	"greatseal/report"
	"greatseal/sign"
	"greatseal/world"
)

// P32.3: the clients

func headOf(w api.World, log, view, size, now int) api.Head {
	h, _ := logd.Head(w.Logs[log], view, size, now)
	return h
}

func TestFetch(t *testing.T) {
	w := doesAll(t, grown(t), tick(20))
	for at, who := range []string{"ann", "bob", "cid"} {
		for n := range 2 {
			x := does(t, "fetched", w, fetch(who, n), api.OK, 1)
			if !slices.Equal(x.Clients[at].Pool.L, []api.Head{headOf(w, n, at%2, 1, 23)}) || len(x.Reports) != 0 || len(x.Events) != len(w.Events) {
				t.Errorf("the clients are %v", x.Clients)
			}
			x = does(t, "fetched again", x, fetch(who, n), api.OK, 1)
			x = does(t, "fetched later", doesAll(t, x, tick(1)), fetch(who, n), api.OK, 1)
			if len(x.Clients[at].Pool.L) != 2 {
				t.Errorf("the clients are %v", x.Clients)
			}
		}
		does(t, "of nothing", begin(t), fetch(who, 1), api.OK, 0)
		for _, n := range []int{math.MinInt, -1, 2, math.MaxInt} {
			does(t, "no log", w, fetch(who, n), api.ErrArg, 0)
		}
	}
	for _, who := range []string{"", "Ann", "dan"} {
		for _, n := range []int{-1, 0, 2} {
			does(t, "nobody", w, fetch(who, n), api.ErrNone, 0)
		}
	}
	does(t, "a log that it does not know", but(w, func(w *api.World) { w.Clients[0].Logs = w.Clients[0].Logs[1:] }), fetch("ann", 0), api.ErrSig, 0)
	does(t, "a log by another key", but(w, func(w *api.World) { w.Clients[0].Logs[1].Key = 4 }), fetch("ann", 1), api.ErrSig, 0)
}

// TestFetchOfManyHeads: a pool that is full has no room.
func TestFetchOfManyHeads(t *testing.T) {
	w := crowded(t, 1023)
	x := does(t, "one more", w, fetch("ann", 0), api.OK, 1)
	if len(x.Clients[0].Pool.L) != 1024 {
		t.Fatal(len(x.Clients[0].Pool.L))
	}
	does(t, "one that is there", x, fetch("ann", 0), api.OK, 1)
	does(t, "one too many", at(x, 3000), fetch("ann", 0), api.ErrBound, 0)
}

// crowded is issued at 2000, where ann holds so many heads of the second log.
func crowded(t *testing.T, many int) api.World {
	t.Helper()
	return but(at(issued(t), 2000), func(w *api.World) {
		w.Clients[0].Pool.L = nil
		for k := range many {
			w.Clients[0].Pool.L = append(w.Clients[0].Pool.L, headOf(*w, 1, 0, 1, k))
		}
	})
}

func TestFetchOfForks(t *testing.T) {
	w := doesAll(t, issued(t), split(0))
	// A client that sees one view alone is told nothing.
	x := does(t, "one view", w, fetch("bob", 0), api.OK, 1)
	if len(x.Reports) != 1 {
		// What bob has fetched ahead of it was the same in both views.
		t.Fatalf("the reports are %v", x.Reports)
	}
	r := x.Reports[0]
	if r.Kind != api.ForkR || r.Party != 0 || report.Check(r, world.Keys(x), x.Crew, x.Policy) != api.OK {
		t.Errorf("the report is %v", r)
	}
	a, b, _ := gossip.Fork(x.Clients[1].Pool)
	if !report.Same(r, report.Fork(a, b)) {
		t.Errorf("the report is %v", r)
	}
	if y := does(t, "fetched later", at(x, 40), fetch("bob", 0), api.OK, 1); len(y.Reports) > 2 {
		t.Errorf("the reports are %v", y.Reports)
	}
	if y := does(t, "the first view", w, fetch("ann", 0), api.OK, 1); len(y.Reports) != 0 {
		t.Errorf("the reports are %v", y.Reports)
	}
	// A fork of the other log is told by whatever it fetches.
	y := doesAll(t, x, fetch("bob", 1))
	if len(y.Reports) != 1 {
		t.Errorf("the reports are %v", y.Reports)
	}
	if y := doesAll(t, but(x, func(w *api.World) { w.Reports = nil }), fetch("bob", 1)); len(y.Reports) != 1 || y.Reports[0].Party != 0 {
		t.Errorf("the reports are %v", y.Reports)
	}
}

func TestDay(t *testing.T) {
	w := at(issued(t), 30)
	x := does(t, "a day", w, day("bob"), api.OK, 0)
	if c := x.Clients[1].Cascade; c.Day != 30 || cascade.Has(c, 1) || len(x.Events) != len(w.Events) || x.Clients[0].Cascade.Day != 0 {
		t.Errorf("the cascade is %v", c)
	}
	x = doesAll(t, x, revokes("ann", 1))
	y := does(t, "the same day", x, day("bob"), api.OK, 0)
	if c := y.Clients[1].Cascade; c.Day != 30 || !cascade.Has(c, 1) {
		t.Errorf("the cascade is %v", c)
	}
	does(t, "an earlier day", at(y, 29), day("bob"), api.ErrDate, 0)
	does(t, "another one's", at(y, 29), day("ann"), api.OK, 0)
	for _, who := range []string{"", "Ann", "dan"} {
		does(t, "nobody", w, day(who), api.ErrNone, 0)
		does(t, "nobody, on no day", at(w, 1<<36), day(who), api.ErrNone, 0)
	}
	does(t, "the last day", at(w, 1<<36-1), day("ann"), api.OK, 0)
	does(t, "no day", at(w, 1<<36), day("ann"), api.ErrArg, 0)
	does(t, "nothing issued", begin(t), day("ann"), api.OK, 0)
}

func TestVisit(t *testing.T) {
	w := at(issued(t), 30)
	for _, who := range []string{"ann", "bob"} {
		x := does(t, "accepted", w, visit(who, "a", 1), api.OK, 0)
		if last(x.Events) != (api.Event{Kind: api.AcceptedE, At: 30, Who: who, Name: "a", N: 1}) || len(x.Events) != len(w.Events)+1 {
			t.Errorf("the event is %v", last(x.Events))
		}
		x.Events = x.Events[:len(w.Events)]
		if !same(x, w) {
			t.Errorf("a visit changes something else")
		}
		x = does(t, "accepted by a cascade", doesAll(t, w, day(who)), visit(who, "a", 1), api.OK, 0)
		if last(x.Events) != (api.Event{Kind: api.AcceptedE, At: 30, Who: who, Name: "a", N: 1, M: 30}) {
			t.Errorf("the event is %v", last(x.Events))
		}
		does(t, "of a day long ago", doesAll(t, w, day(who), tick(5)), visit(who, "a", 1), api.OK, 0)
		does(t, "another name", w, visit(who, "b", 1), api.ErrName, 0)
		does(t, "no name", w, visit(who, "", 1), api.ErrName, 0)
		does(t, "revoked", doesAll(t, w, revokes("ann", 1), day(who)), visit(who, "a", 1), api.ErrGone, 0)
		does(t, "revoked behind its day", doesAll(t, w, day(who), revokes("ann", 1)), visit(who, "a", 1), api.OK, 0)
		for _, n := range []int{math.MinInt, -1, 0, 2, math.MaxInt} {
			does(t, "none", w, visit(who, "a", n), api.ErrNone, 0)
		}
	}
	does(t, "no head", w, visit("cid", "a", 1), api.ErrLog, 0)
	for _, who := range []string{"", "Ann", "dan"} {
		does(t, "nobody", w, visit(who, "a", 1), api.ErrNone, 0)
	}
	does(t, "the first one of the number", but(w, func(w *api.World) { w.Certs = append(w.Certs, w.Certs[0]); w.Certs[1].Sig = api.Sig{} }), visit("ann", "a", 1), api.OK, 0)
	does(t, "the first one of the number", but(w, func(w *api.World) { w.Certs = append(w.Certs, w.Certs[0]); w.Certs[0].Sig = api.Sig{} }), visit("ann", "a", 1), api.ErrSig, 0)
	does(t, "the root", but(w, func(w *api.World) { w.Certs = append(w.Certs, w.Root) }), visit("ann", "a", 0), api.ErrChain, 0)
}

// TestVisitByTheClock: the certificate is from 0 until 40.
func TestVisitByTheClock(t *testing.T) {
	w := issued(t)
	for _, x := range []struct {
		now, ann, bob int
		forAnn        api.Errno
	}{{39, 0, 0, api.OK}, {40, 0, 0, api.ErrDate}, {40, -1, 5, api.OK}, {44, -5, 5, api.OK}, {45, -5, -5, api.ErrDate}, {35, 5, -5, api.ErrDate}, {34, 5, 5, api.OK}, {2, -5, 0, api.OK}} {
		y := but(at(w, x.now), func(w *api.World) {
			w.Net.Clocks = []api.Clock{{Who: "ann", By: x.ann}, {Who: "bob", By: x.bob}}
			w.Clients[0].Cascade.Day = 0
		})
		z := does(t, "by ann's clock", y, visit("ann", "a", 1), x.forAnn, 0)
		if x.forAnn == api.OK && last(z.Events).At != x.now {
			t.Errorf("the event is %v", last(z.Events))
		}
	}
}

// TestVisitByHeads: which heads lead to a place.
func TestVisitByHeads(t *testing.T) {
	// The first log has four certificates, the second one, for whatever reason, none of them.
	w := at(ready(t, 40, "b"), 1)
	for n := range 3 {
		w = doesAll(t, w, issues("ann", n+1), orders("ann", 40, "b"))
	}
	w = doesAll(t, w, tick(30), issues("ann", 4))
	if len(w.Logs[0].L) != 3 || len(w.Logs[0].Wait) != 1 {
		t.Fatal(w.Logs)
	}
	with := func(log int, sizes ...int) api.World {
		return but(w, func(w *api.World) {
			for _, size := range sizes {
				w.Clients[0].Pool.L = append(w.Clients[0].Pool.L, headOf(*w, log, 0, size, 31))
			}
		})
	}
	for n := 1; n <= 3; n++ {
		for size := range 4 {
			want := api.OK
			if size < n {
				want = api.ErrLog
			}
			does(t, fmt.Sprint("a head of ", size), with(0, size), visit("ann", "b", n), want, 0)
			does(t, fmt.Sprint("a head of the second log, of ", size), with(1, size), visit("ann", "b", n), want, 0)
		}
		does(t, "several heads", with(0, 0, 1, 2, 3), visit("ann", "b", n), api.OK, 0)
	}
	does(t, "what waits", with(0, 3), visit("ann", "b", 4), api.ErrLog, 0)
	// The greatest head is of more than the log has: nothing is proved by it, also if another one would do.
	long := but(w, func(w *api.World) { fill(w, 0) })
	h := headOf(long, 0, 0, 200, 31)
	great := with(0, 1, 2, 3)
	great.Clients[0].Pool.L = append(great.Clients[0].Pool.L, h)
	does(t, "a head of more than there is", great, visit("ann", "b", 1), api.ErrLog, 0)
	great.Clients[0].Pool.L = append(great.Clients[0].Pool.L, headOf(w, 1, 0, 3, 31))
	does(t, "a head of more than there is, and one of the other log", great, visit("ann", "b", 1), api.OK, 0)
	// A head of another tree of that size.
	other := with(0, 3)
	other.Clients[0].Pool.L = append(other.Clients[0].Pool.L, otherHead(w, 0, 3))
	slices.SortFunc(other.Clients[0].Pool.L, func(a, b api.Head) int { return slices.Compare(a.Root[:], b.Root[:]) })
	does(t, "two heads of a size", other, visit("ann", "b", 1), api.OK, 0)
	alone := with(0)
	alone.Clients[0].Pool.L = []api.Head{otherHead(w, 0, 3)}
	does(t, "a head of another tree", alone, visit("ann", "b", 1), api.ErrLog, 0)
	// The second view shows it otherwise.
	hidden := doesAll(t, w, split(0), fetch("bob", 0), fetch("ann", 0))
	does(t, "what is hidden", hidden, visit("bob", "b", 3), api.ErrLog, 0)
	does(t, "what is not hidden", hidden, visit("bob", "b", 2), api.OK, 0)
	does(t, "what is hidden in the other view", hidden, visit("ann", "b", 3), api.OK, 0)
}

// otherHead is one that a log has signed of another tree.
func otherHead(w api.World, log, size int) api.Head {
	l := w.Logs[log]
	l.L = slices.Clone(l.L)
	l.L[0].Body = []byte("another one")
	h, _ := logd.Head(l, 0, size, 31)
	return h
}

// TestVisitOfOtherPromises: a certificate with promises of logs that the world has not.
func TestVisitOfOtherPromises(t *testing.T) {
	w := issued(t)
	three, _ := logd.New(2, []byte("three"), 20)
	key, _ := logd.Public(three)
	pre, _ := cert.Pre(w.Certs[0])
	three, promise, _ := logd.Add(three, pre, 0)
	three, _ = logd.Merge(three)
	h, _ := logd.Head(three, 0, 1, 9)
	x := but(w, func(w *api.World) {
		c := &w.Certs[0]
		c.Proms = append(c.Proms, promise)
		body, _ := cert.Body(*c)
		c.Sig, _ = sign.Sign(sign.Secret([]byte("seed")), body)
		w.Clients[0].Logs = append(w.Clients[0].Logs, key)
		w.Clients[0].Pool.L = append(w.Clients[0].Pool.L, h)
	})
	does(t, "three promises", x, visit("ann", "a", 1), api.OK, 0)
	x.Clients[0].Pool.L = []api.Head{h}
	does(t, "a head of a log that the world has not", x, visit("ann", "a", 1), api.ErrLog, 0)
}

func TestTalk(t *testing.T) {
	w := at(issued(t), 40)
	x := does(t, "ann tells cid", w, talk("ann", "cid"), api.OK, 0)
	// Ann holds one head of each log: cid asks for one of that size, too, and both hold all then.
	want := []api.Head{headOf(w, 0, 0, 1, 23), headOf(w, 0, 0, 1, 40), headOf(w, 1, 0, 1, 23), headOf(w, 1, 0, 1, 40)}
	if !slices.Equal(x.Clients[0].Pool.L, want) || !slices.Equal(x.Clients[2].Pool.L, want) || !same(x.Clients[1], w.Clients[1]) || !same(x.Events, w.Events) {
		t.Errorf("the clients are %v", x.Clients)
	}
	y := does(t, "cid tells ann", w, talk("cid", "ann"), api.OK, 0)
	if !same(x, y) {
		t.Errorf("the clients are %v", y.Clients)
	}
	for _, pair := range [][2]string{{"dan", "ann"}, {"ann", "dan"}, {"", "ann"}, {"ann", ""}, {"dan", "dan"}, {"", ""}} {
		does(t, "nobody", w, talk(pair[0], pair[1]), api.ErrNone, 0)
	}
	does(t, "who talks to itself", w, talk("ann", "ann"), api.ErrArg, 0)
	does(t, "who have nothing to tell", begin(t), talk("ann", "bob"), api.OK, 0)
	// What is said of the reports is how many there are.
	does(t, "some reports", but(w, func(w *api.World) { w.Reports = make([]api.Report, 3) }), talk("ann", "bob"), api.OK, 3)
}

// signedAnew is a head with another signature, that is right, too: of another nonce.
func signedAnew(w api.World, h api.Head) api.Head {
	secret, b := w.Logs[h.Log].Key, []byte("head")
	number := func(n uint64) {
		for k := range 8 {
			b = append(b, byte(n>>(56-8*k)))
		}
	}
	for _, n := range []uint64{uint64(h.Log), uint64(h.Size), h.Root[0], h.Root[1], uint64(h.At)} {
		number(n)
	}
	public, _ := sign.Public(secret)
	h.Sig.E = sign.Challenge(cyclic.Base(77), public, b)
	h.Sig.S = cyclic.AddR(77, cyclic.MulR(h.Sig.E, secret))
	return h
}

// TestTalkOfOtherSignatures: of two heads that differ in it alone, who is named first has the one that stays.
func TestTalkOfOtherSignatures(t *testing.T) {
	w := issued(t)
	h := headOf(w, 0, 0, 1, 7)
	other := signedAnew(w, h)
	if h == other {
		t.Fatal(h)
	}
	w.Clients[0].Pool.L, w.Clients[2].Pool.L = []api.Head{h}, []api.Head{other}
	for _, x := range []struct {
		first, second string
		stays         api.Head
	}{{"ann", "cid", h}, {"cid", "ann", other}} {
		y := does(t, "another signature", w, talk(x.first, x.second), api.OK, 0)
		for _, at := range []int{0, 2} {
			if l := y.Clients[at].Pool.L; l[0] != x.stays {
				t.Errorf("of %s and %s both hold %v", x.first, x.second, l)
			}
		}
	}
}

func TestTalkOfForks(t *testing.T) {
	w := at(issued(t), 40)
	w.Clients[0].Pool, w.Clients[1].Pool = api.Pool{}, api.Pool{}
	w = doesAll(t, w, split(0), fetch("ann", 0), fetch("bob", 1))
	// Neither knows of it, and neither has a head of the other one's log.
	x := does(t, "ann tells bob", w, talk("ann", "bob"), api.OK, 1)
	if r := x.Reports[0]; r.Kind != api.ForkR || r.Party != 0 || report.Check(r, world.Keys(x), x.Crew, x.Policy) != api.OK {
		t.Errorf("the report is %v", r)
	}
	if !same(x.Clients[0].Pool, x.Clients[1].Pool) || len(x.Clients[0].Pool.L) != 3 {
		t.Errorf("the clients are %v", x.Clients)
	}
	does(t, "bob tells ann", w, talk("bob", "ann"), api.OK, 1)
	does(t, "ann tells cid", w, talk("ann", "cid"), api.OK, 0)
	if y := does(t, "again", x, talk("ann", "bob"), api.OK, 1); len(y.Reports) != 1 {
		t.Errorf("the reports are %v", y.Reports)
	}
	// Each asks by its own view, whatever the other one's is.
	for views := range 4 {
		v := but(w, func(w *api.World) { w.Clients[0].View, w.Clients[1].View = views&1, views>>1 })
		_, told := world.Do(v, talk("ann", "bob"))
		does(t, "views", v, talk("ann", "bob"), api.OK, told.N)
	}
}

// TestTalkOfWhatIsNotThere: heads of logs, and of sizes, that there are not, and logs that only one of both knows.
func TestTalkOfWhatIsNotThere(t *testing.T) {
	w := at(issued(t), 40)
	three, _ := logd.New(2, []byte("three"), 20)
	key, _ := logd.Public(three)
	h, _ := logd.Head(three, 0, 0, 9)
	x := but(w, func(w *api.World) {
		w.Clients[0].Logs = append(w.Clients[0].Logs, key)
		w.Clients[0].Pool.L = append(w.Clients[0].Pool.L, h)
	})
	y := does(t, "another log", x, talk("ann", "cid"), api.OK, 0)
	if n := len(y.Clients[2].Pool.L); n != 5 {
		t.Errorf("cid holds %d heads", n)
	}
	if e := world.Check(y); e != api.ErrArg {
		t.Errorf("cid holds a head of a log that it does not know: %d", e)
	}
	long := but(w, func(w *api.World) { fill(w, 0) })
	x = but(w, func(w *api.World) {
		w.Clients[0].Pool.L = []api.Head{headOf(long, 0, 0, 1, 23), headOf(long, 0, 0, 2, 23), headOf(long, 0, 0, 200, 23)}
	})
	y = does(t, "sizes that the log has not", x, talk("ann", "cid"), api.OK, 0)
	if n := len(y.Clients[2].Pool.L); n != 4 {
		t.Errorf("cid holds %d heads", n)
	}
	x.Clients[0].Pool.L = append(x.Clients[0].Pool.L, headOf(w, 1, 0, 0, 23), headOf(w, 1, 0, 1, 23))
	y = does(t, "sizes that the one log has not, and the other one has", x, talk("ann", "cid"), api.OK, 0)
	if n := len(y.Clients[2].Pool.L); n != 8 {
		t.Errorf("cid holds %d heads", n)
	}
	x = but(w, func(w *api.World) { w.Clients[2].Logs = w.Clients[2].Logs[:1] })
	y = does(t, "a log that cid does not know", x, talk("ann", "cid"), api.OK, 0)
	if n := len(y.Clients[2].Pool.L); n != 3 {
		t.Errorf("cid holds %d heads", n)
	}
	x = but(w, func(w *api.World) { w.Clients[2].Logs[0].Key = 4 })
	does(t, "a key of another one", x, talk("cid", "ann"), api.OK, 0)
}

func TestTalkOfManyHeads(t *testing.T) {
	for _, x := range []struct {
		many int
		want api.Errno
	}{{1023, api.OK}, {1024, api.ErrArg}} {
		w := crowded(t, x.many)
		w.Clients[1].Pool, w.Clients[2].Pool = api.Pool{}, api.Pool{}
		y := does(t, "many heads", w, talk("ann", "cid"), api.OK, 0)
		if e := world.Check(y); e != x.want || len(y.Clients[0].Pool.L) != x.many+1 {
			t.Errorf("with %d heads there are %d: %d", x.many, len(y.Clients[0].Pool.L), e)
		}
	}
	// A pool that is full takes nothing that it asks for.
	w := crowded(t, 1024)
	w.Clients[2].Pool.L = []api.Head{headOf(w, 0, 0, 1, 7)}
	y := does(t, "a full pool", w, talk("ann", "cid"), api.OK, 0)
	if n := len(y.Clients[0].Pool.L); n != 1026 {
		t.Errorf("ann holds %d heads", n)
	}
}
