package vantage_test

import (
	"math"
	"slices"
	"strconv"
	"strings"
	"testing"

	"greatseal/api"
	"greatseal/names"
	"greatseal/resolve"
	"greatseal/vantage"
)

func text(name, value string) api.Rec {
	return api.Rec{Name: name, Kind: api.TextK, Value: value, Life: 30}
}

func caa(name, value string) api.Rec {
	return api.Rec{Name: name, Kind: api.CaaK, Value: value, Life: 20}
}

func cut(name, to string) api.Rec {
	return api.Rec{Name: name, Kind: api.NsK, Value: to, Life: 50}
}

func alias(name, of string) api.Rec {
	return api.Rec{Name: name, Kind: api.AliasK, Value: of, Life: 40}
}

// inOrder are records as a zone has them.
func inOrder(l ...api.Rec) []api.Rec {
	slices.SortFunc(l, func(a, b api.Rec) int {
		return strings.Compare(a.Name+" "+strconv.Itoa(a.Kind)+" "+a.Value, b.Name+" "+strconv.Itoa(b.Kind)+" "+b.Value)
	})
	return l
}

// netOf has a server with the zone of all names, that of p at 1, and that of q at 2 (which is the adversary's); nobody is at 3, to which r is cut off.
func netOf(seen int, bends []api.Bend, recs ...api.Rec) api.Net {
	return api.Net{
		Seen: seen,
		Servers: []api.Server{
			{Addr: 0, Zones: []api.Zone{{Recs: inOrder(append(recs, cut("p", "1"), cut("r", "3"))...)}}},
			{Addr: 1, Zones: []api.Zone{{Apex: "p", Recs: inOrder(caa("b.p", "x"), text("_seal.b.p", "tok"), text("_seal.a.b.p", "tok"), text("_seal.c.p", "tok"), caa("c.p", "y"))}}},
			{Addr: 2, Zones: []api.Zone{{Recs: inOrder(text("_seal.a.b", "bad"), text("_seal.c.b", "tok"), caa("a.b", "x"), caa("c.b", "x"))}}},
		},
		Bends: bends,
	}
}

// net lets x issue for a.b, which has the token tok, but not for c.b; in what is said of d.b, x is one of several, in what is said of z nothing is.
func net(seen int, bends ...api.Bend) api.Net {
	return netOf(seen, bends,
		text("_seal.a.b", "tok"), text("_seal.c.b", "tok"), text("_seal.d.b", "one"), text("_seal.d.b", "tok"), text("_seal.d.b", "two"), text("_seal.z", "tok"),
		caa("b", "x"), caa("c.b", "y"), caa("d.b", "w"), caa("d.b", "x"), caa("d.b", "y"),
		alias("e.b", "d.b"), alias("f.b", "c.b"), alias("g", "g.r"), text("_seal.f.b", "tok"), alias("_seal.e.b", "_seal.a.b"), text("_seal.g", "tok"), text("_seal.h.g", "tok"),
		caa("i.h.g", "x"), text("_seal.i.h.g", "tok"), text("a.b", "tok"), api.Rec{Name: "_seal.k", Kind: api.HostK, Value: "tok", Life: 9})
}

func sameKept(a, b api.Kept) bool {
	return a.Name == b.Name && a.Kind == b.Kind && a.Until == b.Until && slices.Equal(a.Recs, b.Recs)
}

func sameCache(a, b api.Cache) bool { return slices.EqualFunc(a.L, b.L, sameKept) }

func sameSeen(a, b api.Seen) bool {
	return a.Name == b.Name && a.At == b.At && slices.Equal(a.Votes, b.Votes)
}

func has(l []api.Rec, value string) bool {
	return slices.ContainsFunc(l, func(r api.Rec) bool { return r.Value == value })
}

// letBy is what the chapter says of Caa, word by word.
func letBy(n api.Net, seen int, c api.Cache, now int, name, ca string) (bool, api.Cache, api.Errno) {
	for {
		l, x, e := resolve.Find(n, seen, c, now, name, api.CaaK)
		c = x
		if e == api.OK {
			return has(l, ca), c, api.OK
		}
		if e != api.ErrNone {
			return false, c, e
		}
		if name = names.Up(name); name == "" {
			return true, c, api.OK
		}
	}
}

func lets(t *testing.T, n api.Net, seen int, c api.Cache, now int, name, ca string, want bool, wantE api.Errno) api.Cache {
	t.Helper()
	wantBy, wantC, wantEBy := letBy(n, seen, c, now, name, ca)
	is, x, e := vantage.Caa(n, seen, c, now, name, ca)
	if is != want || e != wantE || !sameCache(x, wantC) || wantBy != want || wantEBy != wantE {
		t.Errorf("Caa(%d, %d, %q, %q) is %t, %v, %d, not %t, %v, %d", seen, now, name, ca, is, x, e, want, wantC, wantE)
	}
	return x
}

// P23.1

func TestAt(t *testing.T) {
	for name, want := range map[string]string{"a.b": "_seal.a.b", "": "_seal.", "_seal.a": "_seal._seal.a", "*.a": "_seal.*.a", "A b\xff": "_seal.A b\xff", strings.Repeat("x", 500): "_seal." + strings.Repeat("x", 500)} {
		if at := vantage.At(name); at != want {
			t.Errorf("At(%q) is %q", name, at)
		}
	}
}

func TestVotes(t *testing.T) {
	for _, x := range []struct {
		votes []bool
		want  int
	}{{nil, 0}, {[]bool{}, 0}, {[]bool{false}, 0}, {[]bool{true}, 1}, {[]bool{true, false, true}, 2}, {[]bool{false, true, false, false}, 1}, {slices.Repeat([]bool{true}, 20), 20}, {slices.Repeat([]bool{true, false, false}, 200), 200}} {
		if n := vantage.Votes(api.Seen{Name: "a", At: 7, Votes: x.votes}); n != x.want {
			t.Errorf("Votes(%v) is %d, not %d", x.votes, n, x.want)
		}
	}
}

// P23.2

func TestCaa(t *testing.T) {
	for _, x := range []struct {
		name, ca string
		want     bool
		e        api.Errno
	}{
		// At the name itself, and above it: the first that says something decides.
		{"b", "x", true, api.OK}, {"b", "y", false, api.OK}, {"a.b", "x", true, api.OK}, {"a.b", "y", false, api.OK}, {"q.r1.s.a.b", "x", true, api.OK},
		{"c.b", "x", false, api.OK}, {"c.b", "y", true, api.OK}, {"a.c.b", "x", false, api.OK}, {"a.c.b", "y", true, api.OK}, {"h.a.c.b", "y", true, api.OK},
		// Of several at one name one is enough, also the first and the last one.
		{"d.b", "w", true, api.OK}, {"d.b", "x", true, api.OK}, {"d.b", "y", true, api.OK}, {"d.b", "v", false, api.OK}, {"d.b", "", false, api.OK}, {"d.b", "X", false, api.OK}, {"d.b", "xy", false, api.OK},
		// Nobody says anything.
		{"z", "x", true, api.OK}, {"z", "", true, api.OK}, {"y.z", "anybody", true, api.OK}, {"q", "x", true, api.OK}, {"k", "x", true, api.OK},
		// In other zones: where these say nothing the zone above is asked.
		{"b.p", "x", true, api.OK}, {"a.b.p", "x", true, api.OK}, {"b.p", "y", false, api.OK}, {"c.p", "x", false, api.OK}, {"d.p", "v", true, api.OK}, {"p", "v", true, api.OK},
		// Another name's.
		{"e.b", "w", true, api.OK}, {"e.b", "v", false, api.OK}, {"f.b", "x", false, api.OK}, {"f.b", "y", true, api.OK},
		// No way to an answer ends it, at once or above; but not where something below has decided.
		{"r", "x", false, api.ErrLost}, {"a.r", "x", false, api.ErrLost}, {"g", "x", false, api.ErrLost}, {"h.g", "x", false, api.ErrLost}, {"i.h.g", "x", true, api.OK}, {"j.i.h.g", "y", false, api.OK}, {"j.h.g", "x", false, api.ErrLost},
	} {
		for _, now := range []int{0, 5, api.MaxTime - 1, api.MaxTime} {
			for seen := -1; seen < 2; seen++ {
				c := lets(t, net(2), seen, api.Cache{}, now, x.name, x.ca, x.want, x.e)
				// What was found is known.
				lets(t, net(2), seen, c, now, x.name, x.ca, x.want, x.e)
			}
		}
	}
}

func TestCaaKeepsWhatItFinds(t *testing.T) {
	none := func(name string) api.Kept { return api.Kept{Name: name, Kind: api.CaaK, Until: 15} }
	b := api.Kept{Name: "b", Kind: api.CaaK, Recs: []api.Rec{caa("b", "x")}, Until: 25}
	for _, x := range []struct {
		name string
		want []api.Kept
	}{
		{"b", []api.Kept{b}}, {"a.b", []api.Kept{none("a.b"), b}}, {"q.a.b", []api.Kept{none("a.b"), b, none("q.a.b")}},
		{"y.z", []api.Kept{none("y.z"), none("z")}}, {"r", nil}, {"h.g", []api.Kept{none("h.g")}},
		{"d.p", []api.Kept{none("d.p"), none("p")}},
	} {
		_, c, _ := vantage.Caa(net(0), -1, api.Cache{}, 5, x.name, "x")
		if !sameCache(c, api.Cache{L: x.want}) {
			t.Errorf("of %q %v is kept, not %v", x.name, c, x.want)
		}
	}
	// What other names are kept for stays, but for what is too old.
	c := api.Cache{L: []api.Kept{{Name: "a", Kind: api.TextK, Until: 6}, {Name: "c", Kind: api.TextK, Until: 5}}}
	_, c, _ = vantage.Caa(net(0), -1, c, 5, "b", "x")
	if !sameCache(c, api.Cache{L: []api.Kept{{Name: "a", Kind: api.TextK, Until: 6}, b}}) {
		t.Errorf("%v is kept", c)
	}
	// With no way to an answer nothing goes.
	old := api.Cache{L: []api.Kept{{Name: "a", Kind: api.TextK, Until: 3}}}
	if _, c, _ := vantage.Caa(net(0), -1, old, 5, "r", "x"); !sameCache(c, old) {
		t.Errorf("%v is kept", c)
	}
}

func TestCaaOfWhatWasKept(t *testing.T) {
	kept := func(l ...api.Kept) api.Cache { return api.Cache{L: l} }
	one := func(name string, until int, values ...string) api.Kept {
		k := api.Kept{Name: name, Kind: api.CaaK, Until: until}
		for _, value := range values {
			k.Recs = append(k.Recs, caa(name, value))
		}
		return k
	}
	// What has gone still decides, and what was not there is not seen, till its time is over.
	lets(t, net(0), -1, kept(one("a.b", 9, "y")), 8, "a.b", "x", false, api.OK)
	lets(t, net(0), -1, kept(one("a.b", 9, "y")), 8, "a.b", "y", true, api.OK)
	lets(t, net(0), -1, kept(one("a.b", 9, "y")), 9, "a.b", "y", false, api.OK)
	lets(t, net(0), -1, kept(one("a.b", 9, "y")), 9, "a.b", "x", true, api.OK)
	lets(t, net(0), -1, kept(one("b", 9)), 8, "a.b", "y", true, api.OK)
	lets(t, net(0), -1, kept(one("b", 9)), 9, "a.b", "y", false, api.OK)
	lets(t, net(0), -1, kept(one("c.b", 9)), 8, "c.b", "x", true, api.OK)
	lets(t, net(0), -1, kept(one("r", 9)), 8, "a.r", "x", false, api.ErrLost)
	lets(t, net(0), -1, kept(one("a.r", 9), one("r", 9)), 8, "a.r", "x", true, api.OK)
	lets(t, net(0), -1, kept(one("r", 9, "x")), 8, "r", "x", true, api.OK)
}

func TestCaaOfARedirectedPoint(t *testing.T) {
	n := net(3, api.Bend{Seen: 1, From: 0, To: 2})
	for seen, want := range map[int]bool{-1: false, 0: false, 1: true, 2: false} {
		lets(t, n, seen, api.Cache{}, 5, "c.b", "x", want, api.OK)
	}
}

// wrongNet may not be.
func wrongNet(seen int) api.Net { return net(seen, api.Bend{Seen: seen, From: 0, To: 2}) }

func noTimes() []int {
	return []int{math.MinInt, -1, api.MaxTime + 1, math.MaxInt}
}

// noCaches may not be, with the error that each tells.
func noCaches() map[api.Errno]api.Cache {
	return map[api.Errno]api.Cache{
		api.ErrArg:   {L: []api.Kept{{Name: "A", Kind: api.TextK}}},
		api.ErrBound: {L: make([]api.Kept, 129)},
	}
}

func noNames() []string {
	return []string{"", ".", "A", "a..b", "*.b", "a.b.", "a b", strings.Repeat("a", 17), strings.Repeat("a.", 8) + "a"}
}

func TestErrorsOfCaa(t *testing.T) {
	lost := func(n api.Net, seen int, c api.Cache, now int, name string, want api.Errno) {
		t.Helper()
		lets(t, n, seen, c, now, name, "x", false, want)
		if _, x, _ := vantage.Caa(n, seen, c, now, name, "x"); len(x.L) != 0 {
			t.Errorf("beside an error %v is told", x)
		}
	}
	full := api.Cache{L: []api.Kept{{Name: "a", Kind: api.TextK, Until: 90}}}
	for _, name := range noNames() {
		lost(net(2), 1, full, 5, name, api.ErrName)
		for _, now := range noTimes() {
			lost(net(2), 1, full, now, name, api.ErrArg)
		}
		for _, seen := range []int{math.MinInt, -2, 2, 3, math.MaxInt} {
			lost(net(2), seen, full, 5, name, api.ErrArg)
		}
		for want, c := range noCaches() {
			lost(wrongNet(2), 2, c, -1, name, want)
		}
	}
	lost(wrongNet(2), 1, full, 5, "a.b", api.ErrArg)
	n := net(2)
	n.Clocks = make([]api.Clock, 0)
	for k := range 65 {
		n.Clocks = append(n.Clocks, api.Clock{Who: string(rune('0' + k))})
	}
	lost(n, 1, full, 5, "a.b", api.ErrBound)
	lost(n, 2, full, -1, "A", api.ErrBound)
}

// P23.3

// sees is what the chapter says of Look, word by word.
func sees(n api.Net, l []api.Cache, now int, name, token, ca string, need int) (api.Seen, []api.Cache, api.Errno) {
	if len(l) != n.Seen || need < 1 || need > n.Seen {
		return api.Seen{}, nil, api.ErrArg
	}
	s, votes := api.Seen{Name: name, At: now}, 0
	var x []api.Cache
	for seen := range n.Seen {
		texts, c, e := resolve.Find(n, seen, l[seen], now, "_seal."+name, api.TextK)
		vote := false
		if e == api.OK && has(texts, token) {
			vote, c, e = letBy(n, seen, c, now, name, ca)
		}
		if e != api.OK && e != api.ErrNone && e != api.ErrLost {
			return api.Seen{}, nil, e
		}
		if vote {
			votes++
		}
		s.Votes, x = append(s.Votes, vote), append(x, c)
	}
	if votes < need {
		return s, x, api.ErrVotes
	}
	return s, x, api.OK
}

// looked tells the votes, as a text of a 1 or a 0 for each point, and the caches.
func looked(t *testing.T, n api.Net, l []api.Cache, now int, name, token, ca string, need int, wantVotes string, wantE api.Errno) []api.Cache {
	t.Helper()
	s, x, e := vantage.Look(n, l, now, name, token, ca, need)
	votes := ""
	for _, vote := range s.Votes {
		if vote {
			votes += "1"
		} else {
			votes += "0"
		}
	}
	wantS, wantX, wantEBy := sees(n, l, now, name, token, ca, need)
	if votes != wantVotes || e != wantE || !sameSeen(s, wantS) || !slices.EqualFunc(x, wantX, sameCache) || wantE != wantEBy {
		t.Errorf("Look(%d, %q, %q, %q, %d) is %v, %v, %d, not %v, %v, %d", now, name, token, ca, need, s, x, e, wantVotes, wantX, wantE)
	}
	return x
}

func TestLook(t *testing.T) {
	for _, x := range []struct {
		name, token, ca string
		votes           bool
	}{
		{"a.b", "tok", "x", true}, {"a.b", "tok", "y", false}, {"a.b", "t", "x", false}, {"a.b", "tok1", "x", false}, {"a.b", "", "x", false}, {"a.b", "TOK", "x", false},
		{"c.b", "tok", "x", false}, {"c.b", "tok", "y", true}, {"c.b", "bad", "y", false},
		// Among others, the first and the last one, too.
		{"d.b", "tok", "x", true}, {"d.b", "one", "w", true}, {"d.b", "two", "y", true}, {"d.b", "three", "x", false}, {"d.b", "tok", "v", false},
		// No token stands there, but at the name itself, or of another kind, or at another one's.
		{"b", "tok", "x", false}, {"k", "tok", "x", false}, {"q", "tok", "x", false}, {"a.a.b", "tok", "x", false},
		{"z", "tok", "x", true}, {"z", "tok", "anybody", true}, {"e.b", "tok", "w", true}, {"e.b", "tok", "v", false}, {"f.b", "tok", "x", false}, {"f.b", "tok", "y", true},
		{"b.p", "tok", "x", true}, {"a.b.p", "tok", "x", true}, {"a.b.p", "tok", "y", false}, {"c.p", "tok", "x", false}, {"c.p", "tok", "y", true},
		// No way to the token, or to what is above.
		{"r", "tok", "x", false}, {"a.r", "tok", "x", false}, {"g", "tok", "x", false}, {"h.g", "tok", "x", false}, {"i.h.g", "tok", "x", true}, {"i.h.g", "tok", "y", false},
	} {
		for _, now := range []int{0, 5, api.MaxTime} {
			for _, seen := range []int{1, 2, 3, 8} {
				votes, e := strings.Repeat("0", seen), api.ErrVotes
				if x.votes {
					votes, e = strings.Repeat("1", seen), api.OK
				}
				for need := 1; need <= seen; need++ {
					looked(t, net(seen), make([]api.Cache, seen), now, x.name, x.token, x.ca, need, votes, e)
				}
			}
		}
	}
}

func TestLookOfRedirectedPoints(t *testing.T) {
	for mask := range 1 << 4 {
		var bends []api.Bend
		good, bad, many := "", "", 0
		for seen := range 4 {
			if mask>>seen&1 == 0 {
				good, bad = good+"1", bad+"0"
				continue
			}
			bends = append(bends, api.Bend{Seen: seen, From: 0, To: 2})
			good, bad, many = good+"0", bad+"1", many+1
		}
		for need := 1; need <= 4; need++ {
			of := func(votes int) api.Errno {
				if votes < need {
					return api.ErrVotes
				}
				return api.OK
			}
			looked(t, net(4, bends...), make([]api.Cache, 4), 5, "a.b", "tok", "x", need, good, of(4-many))
			looked(t, net(4, bends...), make([]api.Cache, 4), 5, "a.b", "bad", "x", need, bad, of(many))
			looked(t, net(4, bends...), make([]api.Cache, 4), 5, "c.b", "tok", "x", need, bad, of(many))
		}
	}
}

func TestLookOfWhatWasKept(t *testing.T) {
	// Each with its own cache, in order: nothing, a token that has gone, that there is none, an authority that has gone, that there is none.
	kept := func(name string, kind int, recs ...api.Rec) api.Cache {
		return api.Cache{L: []api.Kept{{Name: name, Kind: kind, Recs: recs, Until: 9}}}
	}
	caches := func() []api.Cache {
		return []api.Cache{{}, kept("_seal.a.b", api.TextK, text("_seal.a.b", "old")), kept("_seal.a.b", api.TextK), kept("a.b", api.CaaK, caa("a.b", "y")), kept("b", api.CaaK)}
	}
	looked(t, net(5), caches(), 8, "a.b", "tok", "x", 3, "10001", api.ErrVotes)
	looked(t, net(5), caches(), 8, "a.b", "tok", "x", 2, "10001", api.OK)
	looked(t, net(5), caches(), 8, "a.b", "tok", "y", 2, "00011", api.OK)
	looked(t, net(5), caches(), 8, "a.b", "old", "x", 1, "01000", api.OK)
	looked(t, net(5), caches(), 8, "a.b", "old", "x", 2, "01000", api.ErrVotes)
	looked(t, net(5), caches(), 9, "a.b", "tok", "x", 5, "11111", api.OK)
	// What is kept of a look is asked in the next one, when the net has become another one.
	x := looked(t, net(5), caches(), 8, "a.b", "tok", "x", 1, "10001", api.OK)
	y := looked(t, netOf(5, nil), x, 10, "a.b", "tok", "x", 1, "10011", api.OK)
	looked(t, netOf(5, nil), y, 38, "a.b", "tok", "x", 1, "00000", api.ErrVotes)
}

func TestErrorsOfLook(t *testing.T) {
	none := func(n api.Net, l []api.Cache, now int, name string, need int, want api.Errno) {
		t.Helper()
		s, x, e := vantage.Look(n, l, now, name, "tok", "x", need)
		if e != want || len(x) != 0 || !sameSeen(s, api.Seen{}) {
			t.Errorf("Look(%d, %q, %d) of %d points and %d caches is %v, %v, %d, not %d", now, name, need, n.Seen, len(l), s, x, e, want)
		}
	}
	for seen := range 9 {
		for many := range 11 {
			if many != seen {
				none(net(seen), make([]api.Cache, many), 5, "a.b", 1, api.ErrArg)
				none(wrongNet(seen), make([]api.Cache, many), -1, "A", 1, api.ErrArg)
			}
		}
		for _, need := range []int{math.MinInt, -1, 0, seen + 1, seen + 2, math.MaxInt} {
			none(net(seen), make([]api.Cache, seen), 5, "a.b", need, api.ErrArg)
			none(net(seen), make([]api.Cache, seen), 5, "A", need, api.ErrArg)
		}
	}
	for _, seen := range []int{-1, 9, math.MinInt} {
		none(net(seen), make([]api.Cache, max(0, seen)), 5, "a.b", 1, api.ErrArg)
	}
	for _, name := range append(noNames(), strings.Repeat("abcdefg.", 7)+"abc", "a.b.c.d.e.f.g.h") {
		none(net(3), make([]api.Cache, 3), 5, name, 1, api.ErrName)
	}
	for _, now := range noTimes() {
		none(net(3), make([]api.Cache, 3), now, "a.b", 1, api.ErrArg)
		none(net(3), make([]api.Cache, 3), now, "A", 1, api.ErrArg)
	}
	none(wrongNet(3), make([]api.Cache, 3), 5, "a.b", 1, api.ErrArg)
	// Of a cache that may not be, whosever it is: the first one's error, but what is wrong with the call comes first.
	for want, c := range noCaches() {
		for at := range 3 {
			l := make([]api.Cache, 3)
			l[at] = c
			none(net(3), l, 5, "a.b", 1, want)
			none(net(3), l, 5, "q", 1, want)
			none(net(3), l, 5, "a.b", 4, api.ErrArg)
			l[2] = noCaches()[api.ErrArg+api.ErrBound-want]
			if at < 2 {
				none(net(3), l, 5, "a.b", 1, want)
			}
		}
	}
	// The longest name that a token may stand at.
	longest := strings.Repeat(strings.Repeat("a", 16)+".", 3) + "abcdefg"
	looked(t, net(2), make([]api.Cache, 2), 5, longest, "tok", "x", 1, "00", api.ErrVotes)
	none(net(2), make([]api.Cache, 2), 5, longest+"c", 1, api.ErrName)
}

// P23.4

func TestWhatFewerThanNeeded(t *testing.T) {
	for _, world := range []struct {
		n  func(seen int, bends ...api.Bend) api.Net
		is bool
	}{
		{net, true},
		{func(seen int, bends ...api.Bend) api.Net { return netOf(seen, bends, text("_seal.a.b", "tok")) }, true},
		{func(seen int, bends ...api.Bend) api.Net {
			return netOf(seen, bends, text("_seal.a.b", "tok"), caa("b", "y"))
		}, false},
		{func(seen int, bends ...api.Bend) api.Net {
			return netOf(seen, bends, text("_seal.a.b", "token"), caa("b", "x"))
		}, false},
	} {
		for mask := range 1 << 5 {
			var bends []api.Bend
			for seen := range 5 {
				if mask>>seen&1 == 1 {
					bends = append(bends, api.Bend{Seen: seen, From: 0, To: 2})
				}
			}
			for _, token := range []string{"tok", "bad"} {
				for need := 1; need <= 5; need++ {
					s, _, e := vantage.Look(world.n(5, bends...), make([]api.Cache, 5), 5, "a.b", token, "x", need)
					if is := world.is && token == "tok"; e == api.OK && len(bends) < need && !is {
						t.Errorf("%d of 5, of whom %d are redirected, have seen the token %q, which is not there", need, len(bends), token)
					}
					for seen := range 5 {
						if mask>>seen&1 == 0 && s.Votes[seen] != (world.is && token == "tok") {
							t.Errorf("%d, who is not redirected, votes %t", seen, s.Votes[seen])
						}
					}
				}
			}
		}
	}
}

// R2

func TestNothingIsChangedOrShared(t *testing.T) {
	const seen = 2
	fresh := func() (api.Net, []api.Cache) {
		l := make([]api.Cache, seen, seen+5)
		for at := range l {
			l[at].L = append(make([]api.Kept, 0, 20), api.Kept{Name: "a", Kind: api.TextK, Recs: append(make([]api.Rec, 0, 5), text("a", "t")), Until: 90})
		}
		return net(seen), l
	}
	sameNet := func(a, b api.Net) bool {
		return slices.EqualFunc(a.Servers, b.Servers, func(a, b api.Server) bool {
			return slices.EqualFunc(a.Zones, b.Zones, func(a, b api.Zone) bool { return slices.Equal(a.Recs, b.Recs) })
		})
	}
	spoil := func(n api.Net, l []api.Cache) {
		for _, c := range l {
			for _, k := range c.L {
				clear(k.Recs)
			}
			clear(c.L[:cap(c.L)])
		}
		clear(l)
		for _, s := range n.Servers {
			for _, z := range s.Zones {
				clear(z.Recs)
			}
		}
	}
	for k, call := range []func(n api.Net, l []api.Cache) []api.Cache{
		func(n api.Net, l []api.Cache) []api.Cache {
			_, x, _ := vantage.Look(n, l, 5, "a.b", "tok", "x", 1)
			return x
		},
		func(n api.Net, l []api.Cache) []api.Cache {
			_, x, _ := vantage.Look(n, l, 5, "r", "tok", "x", 1)
			return x
		},
		func(n api.Net, l []api.Cache) []api.Cache {
			_, x, _ := vantage.Look(n, l, 5, "h.g", "tok", "x", 1)
			return x
		},
		func(n api.Net, l []api.Cache) []api.Cache {
			_, x, _ := vantage.Caa(n, 0, l[0], 5, "a.b", "x")
			return []api.Cache{x}
		},
		func(n api.Net, l []api.Cache) []api.Cache {
			_, x, _ := vantage.Caa(n, 0, l[0], 5, "r", "x")
			return []api.Cache{x}
		},
	} {
		plainNet, plain := fresh()
		want := call(plainNet, plain)
		n, l := fresh()
		got := call(n, l)
		if !sameNet(n, plainNet) || !slices.EqualFunc(l, plain, sameCache) || len(l[0].L[:2][1].Name) != 0 {
			t.Errorf("call %d changes what is handed in", k)
		}
		spoil(n, l)
		if !slices.EqualFunc(got, want, sameCache) {
			t.Errorf("what call %d has told changes with what was handed in", k)
		}
		n, l = fresh()
		spoil(api.Net{}, call(n, l))
		if !sameNet(n, plainNet) || !slices.EqualFunc(l, plain, sameCache) {
			t.Errorf("what was handed in changes with what call %d has told", k)
		}
	}
}

// The chapter's example

func TestExample(t *testing.T) {
	n := api.Net{Seen: 3, Servers: []api.Server{{Zones: []api.Zone{{Recs: []api.Rec{text("_seal.a.b", "tok"), caa("b", "x")}}}}}}
	looked(t, n, make([]api.Cache, 3), 0, "a.b", "tok", "x", 3, "111", api.OK)
	looked(t, n, make([]api.Cache, 3), 0, "a.b", "tok", "y", 3, "000", api.ErrVotes)
	looked(t, n, make([]api.Cache, 3), 0, "a.b", "t", "x", 3, "000", api.ErrVotes)
	s, _, _ := vantage.Look(n, make([]api.Cache, 3), 0, "a.b", "tok", "x", 3)
	if vantage.Votes(s) != 3 || s.Name != "a.b" || s.At != 0 {
		t.Errorf("%v is seen", s)
	}
}
