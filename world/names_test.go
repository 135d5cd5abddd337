package world_test

import (
	"slices"
	"strconv"
	"strings"
	"testing"

	"greatseal/api"
	"greatseal/route"
	"greatseal/world"
	"greatseal/zone"
)

// P32.3: names, zones and routes

func textAt(name string) api.Rec {
	return api.Rec{Name: name, Kind: api.TextK, Value: "t", Life: 9}
}

// zoneOf is what a server has of an apex.
func zoneOf(w api.World, addr int, apex string) api.Zone {
	z, _ := zoneWith(&w, addr, apex)
	return z
}

// withZone is a world in which a server has that zone.
func withZone(t *testing.T, w api.World, addr int, z api.Zone) api.World {
	t.Helper()
	return but(w, func(w *api.World) {
		var e api.Errno
		if w.Net, e = route.Put(w.Net, addr, z); e != api.OK {
			t.Fatal(e)
		}
	})
}

// full is a zone with 64 records.
func full(apex string) api.Zone {
	z := api.Zone{Apex: apex}
	for k := range 64 {
		name := "n" + strconv.Itoa(k)
		if apex != "" {
			name += "." + apex
		}
		z, _ = zone.Put(z, textAt(name))
	}
	return z
}

// without is a world without a server.
func without(w api.World, addr int) api.World {
	return but(w, func(w *api.World) {
		w.Net.Servers = slices.DeleteFunc(w.Net.Servers, func(s api.Server) bool { return s.Addr == addr })
	})
}

func TestOwn(t *testing.T) {
	w := does(t, "a name", but(begin(t), func(w *api.World) { w.Now = 7 }), own("ann", "a"), api.OK, 0)
	cut := api.Rec{Name: "a", Kind: api.NsK, Value: "1", Life: 100}
	if !same(w.Net.Servers, []api.Server{{Addr: 0, Zones: []api.Zone{{Recs: []api.Rec{cut}}}}, {Addr: 1, Zones: []api.Zone{{Apex: "a"}}}, {Addr: 7, Zones: []api.Zone{{}}}}) {
		t.Errorf("the servers are %v", w.Net.Servers)
	}
	if !same(w.Events, []api.Event{{Kind: api.OwnedE, At: 7, Who: "ann", Name: "a"}}) {
		t.Errorf("the events are %v", w.Events)
	}
	w = doesAll(t, w, put("ann", textAt("x.a")), own("bob", "y.a"), own("ann", "b.c"), own("ann", "a"))
	if !same(zoneOf(w, 1, "a"), api.Zone{Apex: "a"}) || len(w.Events) != 4 || len(serverOf(&w, 1).Zones) != 3 || len(zoneOf(w, 0, "").Recs) != 3 {
		t.Errorf("who has a name anew has what was there")
	}
	for _, who := range []string{"!", "~", strings.Repeat("~", 64), "greatseal"} {
		does(t, "whoever is a text", w, own(who, "a"), api.OK, 0)
	}
	for _, who := range []string{"", " ", "a b", "a\x7f", "\x20a", "\x1f", strings.Repeat("~", 65), "\xc3\xa4"} {
		does(t, "no text", w, own(who, "a"), api.ErrArg, 0)
		does(t, "no text, and no name", w, own(who, ""), api.ErrArg, 0)
	}
	for _, name := range []string{"", "A", "a..b", "*.a", "a.", strings.Repeat("a", 17), "1.2.3.4.5.6.7.8.9"} {
		does(t, "no name", w, own("ann", name), api.ErrName, 0)
		does(t, "no name, and no root zone", without(w, 0), own("ann", name), api.ErrName, 0)
	}
	does(t, "a token's name", w, own("ann", "_seal.a"), api.OK, 0)
}

func TestOwnOfServersThatAreOtherwise(t *testing.T) {
	w := doesAll(t, begin(t), own("ann", "a"))
	does(t, "no root zone", without(w, 0), own("ann", "b"), api.ErrArg, 0)
	does(t, "no root zone, but one of that name", without(w, 0), own("bob", "a"), api.OK, 0)
	other := but(w, func(w *api.World) { w.Net.Servers[0].Zones = []api.Zone{{Apex: "z"}} })
	does(t, "a root server without the root zone", other, own("ann", "b"), api.ErrArg, 0)
	does(t, "a root server without the root zone, a name below its zone", other, own("ann", "b.z"), api.ErrArg, 0)
	x := does(t, "no server of names", without(w, 1), own("ann", "a"), api.OK, 0)
	if !same(x.Net, w.Net) {
		t.Errorf("there is no server of names behind it: %v", x.Net)
	}
	// The zones of others are others': that server 7 has one of the name says nothing.
	x = does(t, "a zone at another server", withZone(t, begin(t), 7, api.Zone{Apex: "a"}), own("ann", "a"), api.OK, 0)
	if len(zoneOf(x, 0, "").Recs) != 1 || len(serverOf(&x, 1).Zones) != 1 {
		t.Errorf("the servers are %v", x.Net.Servers)
	}
	does(t, "a root zone that is full", withZone(t, w, 0, full("")), own("ann", "b"), api.ErrBound, 0)
	does(t, "a root zone that is full, and has it", withZone(t, w, 0, full("")), own("ann", "a"), api.OK, 0)
	alias := api.Zone{Recs: []api.Rec{{Name: "b", Kind: api.AliasK, Value: "z", Life: 5}}}
	does(t, "a root zone with an alias there", withZone(t, w, 0, alias), own("ann", "b"), api.ErrZone, 0)
	eight := w
	for k := range 7 {
		eight = doesAll(t, eight, own("ann", "n"+strconv.Itoa(k)))
	}
	x = does(t, "a ninth zone", eight, own("ann", "z"), api.ErrBound, 0)
	if len(zoneOf(x, 0, "").Recs) != 8 {
		t.Errorf("the root zone has the ninth one")
	}
	does(t, "a ninth zone, that there is", eight, own("bob", "n6"), api.OK, 0)
	// What leads there stays as it is.
	life := withZone(t, w, 0, api.Zone{Recs: []api.Rec{{Name: "a", Kind: api.NsK, Value: "1", Life: 3}}})
	if x := does(t, "a cut of another life", life, own("bob", "a"), api.OK, 0); zoneOf(x, 0, "").Recs[0].Life != 3 {
		t.Errorf("the root zone is changed")
	}
	x = does(t, "a cut of another life, and no zone", without(life, 1), own("bob", "a"), api.OK, 0)
	if l := zoneOf(x, 0, "").Recs; len(l) != 1 || l[0].Life != 100 {
		t.Errorf("the root zone has %v", l)
	}
}

func TestPut(t *testing.T) {
	w := doesAll(t, begin(t), own("ann", "a"), own("bob", "x.a"), own("ann", "b"))
	for _, r := range []api.Rec{textAt("a"), textAt("q.a"), textAt("y.q.a"), textAt("b"), {Name: "q.a", Kind: api.AliasK, Value: "z", Life: 1000}, {Name: "q.a", Kind: api.CaaK, Value: "z", Life: 1}, {Name: "q.a", Kind: api.HostK, Value: "z", Life: 1}, textAt("_sealx.a"), textAt("_s.a"), textAt("seal.a")} {
		x := does(t, "what ann has", w, put("ann", r), api.OK, 0)
		z, _ := zoneFor(&x, r.Name)
		if !slices.Contains(z.Recs, r) {
			t.Errorf("%v is not there", r)
		}
		does(t, "what bob has not", w, put("bob", r), api.ErrState, 0)
		for _, who := range []string{"", "cid", "Ann", "ann "} {
			does(t, "what nobody has", w, put(who, r), api.ErrState, 0)
		}
	}
	for _, name := range []string{"x.a", "y.x.a", "z.y.x.a"} {
		does(t, "what bob has below what ann has", w, put("bob", textAt(name)), api.OK, 0)
		does(t, "what ann has not below what she has", w, put("ann", textAt(name)), api.ErrState, 0)
	}
	for _, name := range []string{"", "c", "A", "aa", "a..a", "*.a", "1.2.3.4.5.6.7.8.a"} {
		does(t, "what nobody has", w, put("ann", textAt(name)), api.ErrState, 0)
	}
	for _, name := range []string{"_seal.a", "_seal.q.a", "_seal.b", "q._seal.a", "_seal._seal.a", "_seal.a.q.b"} {
		does(t, "a token's", w, put("ann", textAt(name)), api.ErrName, 0)
		does(t, "a token's, of a kind that may not be", w, put("ann", api.Rec{Name: name, Kind: api.NsK, Value: "7", Life: 9}), api.ErrName, 0)
		does(t, "a token's, that another one has", w, put("bob", textAt(name)), api.ErrState, 0)
	}
	does(t, "a cut", w, put("ann", api.Rec{Name: "q.a", Kind: api.NsK, Value: "7", Life: 9}), api.ErrArg, 0)
	does(t, "a cut that may not be", w, put("ann", api.Rec{Name: "q.a", Kind: api.NsK, Value: "8", Life: 0}), api.ErrArg, 0)
	does(t, "a cut in a zone that is full", withZone(t, w, 1, full("a")), put("ann", api.Rec{Name: "q.a", Kind: api.NsK, Value: "7", Life: 9}), api.ErrArg, 0)
	does(t, "a zone that is full", withZone(t, w, 1, full("a")), put("ann", textAt("q.a")), api.ErrBound, 0)
	for _, r := range []api.Rec{{Name: "q.a"}, {Name: "q.a", Kind: 6, Value: "t", Life: 9}, {Name: "q.a", Kind: api.TextK, Value: "", Life: 9}, {Name: "q.a", Kind: api.TextK, Value: "t", Life: 0}, {Name: "q.a", Kind: api.TextK, Value: "t", Life: 1001}} {
		does(t, "a record that may not be", w, put("ann", r), api.ErrArg, 0)
		does(t, "a record that may not be, of another one", w, put("bob", r), api.ErrState, 0)
	}
	alias := doesAll(t, w, put("ann", api.Rec{Name: "q.a", Kind: api.AliasK, Value: "z", Life: 5}))
	does(t, "beside an alias", alias, put("ann", textAt("q.a")), api.ErrZone, 0)
}

// TestWhoHasAName: the last one who was told to have it, if it has a zone.
func TestWhoHasAName(t *testing.T) {
	w := doesAll(t, begin(t), own("ann", "a"))
	owned := func(kind int, who, name string) api.World {
		return but(w, func(w *api.World) {
			w.Events = append(w.Events, api.Event{Kind: kind, At: 1 << 50, Who: who, Name: name})
		})
	}
	for _, x := range []struct {
		what     string
		w        api.World
		ann, bob api.Errno
	}{
		{"as it was", w, api.OK, api.ErrState},
		{"told to be bob's", owned(api.OwnedE, "bob", "a"), api.ErrState, api.OK},
		{"another event", owned(api.SeenE, "bob", "a"), api.OK, api.ErrState},
		{"another name", owned(api.OwnedE, "bob", "q.a"), api.OK, api.ErrState},
		{"told to be nobody's", owned(api.OwnedE, "", "a"), api.ErrState, api.ErrState},
		{"nobody was told", but(w, func(w *api.World) { w.Events = nil }), api.ErrState, api.ErrState},
		{"without its zone", without(w, 1), api.ErrState, api.ErrState},
		{"without the root zone", without(w, 0), api.OK, api.ErrState},
	} {
		does(t, x.what, x.w, put("ann", textAt("q.a")), x.ann, 0)
		does(t, x.what, x.w, put("bob", textAt("q.a")), x.bob, 0)
	}
	does(t, "told to be nobody's", owned(api.OwnedE, "", "a"), put("", textAt("q.a")), api.OK, 0)
	all := owned(api.OwnedE, "ann", "")
	does(t, "told to be hers without a name", all, put("ann", textAt("c")), api.ErrState, 0)
	does(t, "told to be hers without a name", withZone(t, all, 1, api.Zone{}), put("ann", textAt("c")), api.OK, 0)
	does(t, "nobody was told", but(w, func(w *api.World) { w.Events = nil }), put("", textAt("q.a")), api.ErrState, 0)
}

func TestDrop(t *testing.T) {
	w := doesAll(t, grown(t), put("ann", textAt("q.a")), own("bob", "x.a"))
	x := does(t, "what is there", w, drop("ann", textAt("q.a")), api.OK, 0)
	if z := zoneOf(x, 1, "a"); len(z.Recs) != 1 || z.Recs[0].Name != "_seal.a" {
		t.Errorf("the zone is %v", z)
	}
	does(t, "it is gone", x, drop("ann", textAt("q.a")), api.ErrZone, 0)
	does(t, "of another life", w, drop("ann", api.Rec{Name: "q.a", Kind: api.TextK, Value: "t", Life: -3}), api.OK, 0)
	does(t, "of another value", w, drop("ann", api.Rec{Name: "q.a", Kind: api.TextK, Value: "u", Life: 9}), api.ErrZone, 0)
	does(t, "a token", w, drop("ann", api.Rec{Name: "_seal.a", Kind: api.TextK, Value: "1-1"}), api.OK, 0)
	does(t, "a cut that is not there", w, drop("ann", api.Rec{Name: "q.a", Kind: api.NsK, Value: "7", Life: 9}), api.ErrZone, 0)
	cut := withZone(t, w, 1, api.Zone{Apex: "a", Recs: []api.Rec{{Name: "q.a", Kind: api.NsK, Value: "7", Life: 9}}})
	does(t, "a cut that is there", cut, drop("ann", api.Rec{Name: "q.a", Kind: api.NsK, Value: "7"}), api.OK, 0)
	for _, who := range []string{"bob", "cid", ""} {
		does(t, "another one's", w, drop(who, textAt("q.a")), api.ErrState, 0)
		does(t, "another one's, that is not there", w, drop(who, textAt("r.a")), api.ErrState, 0)
	}
	does(t, "no name", w, drop("ann", textAt("")), api.ErrState, 0)
	does(t, "what bob has below it", w, drop("ann", textAt("q.x.a")), api.ErrState, 0)
	does(t, "what bob has, and is not there", w, drop("bob", textAt("q.x.a")), api.ErrZone, 0)
}

func TestBend(t *testing.T) {
	w := begin(t)
	x := does(t, "bent", w, bend(1, 0, 7), api.OK, 0)
	if !same(x.Net.Bends, []api.Bend{{Seen: 1, From: 0, To: 7}}) {
		t.Errorf("the bends are %v", x.Net.Bends)
	}
	y := does(t, "mended", x, mend(1, 0, 3), api.OK, 0)
	if !same(y, w) {
		t.Errorf("it is not as it was")
	}
	does(t, "nothing to mend", w, mend(1, 0, 7), api.ErrNone, 0)
	does(t, "nothing to mend there", x, mend(2, 0, 7), api.ErrNone, 0)
	for _, b := range []api.Do{bend(3, 0, 7), bend(-1, 0, 7), bend(1, 0, 0), bend(1, 0, 8)} {
		does(t, "what may not be bent", w, b, api.ErrArg, 0)
	}
	does(t, "to a server that there is not", w, bend(1, 0, 3), api.ErrNone, 0)
	does(t, "another way", x, bend(1, 0, 1), api.OK, 0)
	for _, n := range []int{-1, 2, 3, 1 << 40} {
		for _, w := range []api.World{w, x} {
			does(t, "neither", w, api.Do{Kind: api.BendDo, N: n, Bend: api.Bend{Seen: 1, From: 0, To: 7}}, api.ErrArg, 0)
		}
	}
}

func TestFake(t *testing.T) {
	w := grown(t)
	for _, r := range []api.Rec{textAt("a"), textAt("_seal.a"), {Name: "b", Kind: api.NsK, Value: "7", Life: 9}, {Name: "c", Kind: api.AliasK, Value: "a", Life: 9}} {
		x := does(t, "anything", w, fake(r), api.OK, 0)
		if !same(zoneOf(x, 7, ""), api.Zone{Recs: []api.Rec{r}}) || !same(x.Net.Servers[:2], w.Net.Servers[:2]) {
			t.Errorf("the servers are %v", x.Net.Servers)
		}
	}
	does(t, "what may not be", w, fake(api.Rec{Name: "a"}), api.ErrArg, 0)
	does(t, "no server", without(w, 7), fake(textAt("a")), api.ErrArg, 0)
	does(t, "no zone", but(w, func(w *api.World) { w.Net.Servers[2].Zones = []api.Zone{{Apex: "a"}} }), fake(textAt("a")), api.ErrArg, 0)
	does(t, "a full zone", withZone(t, w, 7, full("")), fake(textAt("a")), api.ErrBound, 0)
	alias := doesAll(t, w, fake(api.Rec{Name: "c", Kind: api.AliasK, Value: "a", Life: 9}))
	does(t, "beside an alias", alias, fake(textAt("c")), api.ErrZone, 0)
}

func TestToken(t *testing.T) {
	// The authorizations are 1 for a, and 3 for y.a, of ann, and 2 for b, of bob.
	w := grown(t)
	x := does(t, "her own", w, token("ann", 3), api.OK, 0)
	z := zoneOf(x, 1, "a")
	if !slices.Contains(z.Recs, api.Rec{Name: "_seal.y.a", Kind: api.TextK, Value: "3-1", Life: 100}) || len(z.Recs) != 2 {
		t.Errorf("the zone is %v", z)
	}
	does(t, "his own", w, token("bob", 2), api.OK, 0)
	for _, n := range []int{-1, 0, 4, 1 << 40} {
		does(t, "none", w, token("ann", n), api.ErrNone, 0)
		does(t, "none, of nobody", w, token("cid", n), api.ErrNone, 0)
	}
	for _, who := range []string{"bob", "cid", ""} {
		does(t, "another one's", w, token(who, 1), api.ErrAccount, 0)
		does(t, "another one's, also if it has the name", doesAll(t, w, own("x"+who, "a"), own("bob", "a")), token(who, 1), api.ErrAccount, 0)
	}
	gone := doesAll(t, w, own("bob", "a"))
	does(t, "no longer hers", gone, token("ann", 1), api.ErrState, 0)
	does(t, "no longer hers, below", gone, token("ann", 3), api.ErrState, 0)
	does(t, "hers below alone", doesAll(t, gone, own("ann", "y.a")), token("ann", 3), api.OK, 0)
	does(t, "without a zone", without(w, 1), token("ann", 1), api.ErrState, 0)
	does(t, "a full zone", withZone(t, w, 1, full("a")), token("ann", 3), api.ErrBound, 0)
	long := strings.Repeat("abcdefghijklmno.", 3) + "abcdefghij"
	for _, x := range []struct {
		name string
		want api.Errno
	}{{long[:58], api.OK}, {long[:57] + "x.a", api.OK}, {long[:57] + "x" + "yz", api.ErrArg}, {"1.2.3.4.5.6.7", api.OK}, {"1.2.3.4.5.6.7.8", api.ErrArg}} {
		if len(x.name) > 58 && x.want == api.OK {
			continue
		}
		w := doesAll(t, begin(t), own("ann", x.name), join("ann"), orders("ann", 5, x.name))
		does(t, "a token at "+x.name, w, token("ann", 1), x.want, 0)
	}
	// The zone of the name itself has it, whoever has the token's name.
	w = doesAll(t, w, own("bob", "_seal.a"))
	x = does(t, "the token's name is bob's", w, token("ann", 1), api.OK, 0)
	if !same(zoneOf(x, 1, "_seal.a"), api.Zone{Apex: "_seal.a"}) || len(zoneOf(x, 1, "a").Recs) != 1 {
		t.Errorf("the servers are %v", x.Net.Servers)
	}
	if e := world.Check(x); e != api.OK {
		t.Errorf("Check is %d", e)
	}
}
