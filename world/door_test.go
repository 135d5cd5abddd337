package world_test

import (
	"fmt"
	"math"
	"slices"
	"strings"
	"testing"

	"greatseal/api"
	"greatseal/cert"
	"greatseal/logd"
	"greatseal/order"
	"greatseal/policy"
	"greatseal/quorum"
	"greatseal/report"
	"greatseal/sign"
	"greatseal/signer"
	"greatseal/world"
)

// P32.3: the door

// at is a world at another time.
func at(w api.World, now int) api.World { return but(w, func(w *api.World) { w.Now = now }) }

// busy is a world whose door has told as many nonces as it may.
func busy(w api.World) api.World {
	return but(w, func(w *api.World) {
		for range 64 {
			w.Front, _, _ = order.Nonce(w.Front, w.Now)
		}
	})
}

func TestJoin(t *testing.T) {
	w := does(t, "an account", begin(t), join("ann"), api.OK, 1)
	if !same(w.Front.Accounts, []api.Account{{Id: 1, Key: keyOf("ann")}}) || len(w.Events) != 0 {
		t.Errorf("the accounts are %v", w.Front.Accounts)
	}
	w = does(t, "another one", w, join("bob"), api.OK, 2)
	w = does(t, "the first one again", w, join("ann"), api.OK, 1)
	for _, who := range []string{"", " ", "a b", "a\x7f", strings.Repeat("~", 65)} {
		does(t, "no text", w, join(who), api.ErrArg, 0)
		does(t, "no text, at a busy door", busy(w), join(who), api.ErrArg, 0)
	}
	does(t, "a long text", w, join(strings.Repeat("~", 64)), api.OK, 3)
	for k := range 62 {
		w = doesAll(t, w, join(fmt.Sprintf("w%d", k)))
	}
	does(t, "a 65th account", w, join("cid"), api.ErrBound, 0)
	does(t, "one of 64 accounts", w, join("bob"), api.OK, 2)
	does(t, "as late as may be", at(w, api.MaxTime-20), join("bob"), api.OK, 2)
	does(t, "too late for a nonce", at(w, api.MaxTime-19), join("bob"), api.ErrArg, 0)
	does(t, "a busy door", busy(w), join("bob"), api.ErrBound, 0)
}

// TestKeyOfSomebody: keys that were worked out once must stay what they are.
func TestKeyOfSomebody(t *testing.T) {
	w := doesAll(t, begin(t), join("ann"), join("ann!"))
	// sign.Secret of hash.Bytes of hash.Tagged of account and the text.
	if w.Front.Accounts[0].Key != keyOf("ann") || w.Front.Accounts[1].Key != keyOf("ann!") || keyOf("ann") == keyOf("ann!") {
		t.Errorf("the accounts are %v", w.Front.Accounts)
	}
}

func TestOrder(t *testing.T) {
	w := at(doesAll(t, begin(t), join("bob"), join("ann")), 6)
	x := does(t, "an order", w, orders("ann", 40, "a", "x.b"), api.OK, 1)
	if !same(x.Front.Orders, []api.Order{{Id: 1, Account: 2, Names: []string{"a", "x.b"}, Key: 16, Life: 40, Auths: []int{1, 2}, State: api.Pending}}) {
		t.Errorf("the orders are %v", x.Front.Orders)
	}
	if !same(x.Books, []api.Booked{{Who: "ann", Names: []string{"a", "x.b"}, Key: 16, At: 6}}) || !same(x.Events, []api.Event{{Kind: api.OrderedE, At: 6, Who: "ann", N: 1}}) {
		t.Errorf("what is booked is %v, the events are %v", x.Books, x.Events)
	}
	y := does(t, "another one", x, orders("bob", 1, "a"), api.OK, 2)
	if len(y.Books) != 2 || y.Books[1].Who != "bob" || last(y.Events).N != 2 || !same(y.Books[0], x.Books[0]) {
		t.Errorf("what is booked is %v, the events are %v", y.Books, y.Events)
	}
	for _, who := range []string{"cid", "", "Ann"} {
		does(t, "nobody", w, orders(who, 40, "a"), api.ErrAccount, 0)
		does(t, "nobody, at a busy door", busy(w), orders(who, -1, "a"), api.ErrAccount, 0)
	}
	does(t, "a busy door", busy(w), orders("ann", -1), api.ErrBound, 0)
	does(t, "too late for a nonce", at(w, api.MaxTime-19), orders("ann", 5, "a"), api.ErrArg, 0)
	for _, life := range []int{math.MinInt, -1, 0, 1001, api.MaxTime, api.MaxTime + 1, math.MaxInt} {
		does(t, "no life", w, orders("ann", life, "a"), api.ErrArg, 0)
	}
	for _, names := range [][]string{nil, {}, {""}, {"A"}, {"a", "a"}, {"a", "*.a"}, {strings.Repeat("a", 65)}, {"1", "2", "3", "4", "5", "6", "7", "8", "9"}} {
		does(t, "no names", w, orders("ann", 5, names...), api.ErrArg, 0)
	}
	does(t, "eight names", w, orders("ann", 5, "1", "2", "3", "4", "5", "6", "7", "8"), api.OK, 1)
	for _, key := range []uint64{0, 2, api.Q, math.MaxUint64} {
		d := orders("ann", 5, "a")
		d.Key = key
		does(t, "no key", w, d, api.ErrArg, 0)
	}
	for k := range 128 {
		w, _ = world.Do(w, orders("ann", 5, "a"))
		if len(w.Front.Orders) != k+1 {
			t.Fatal(k)
		}
	}
	does(t, "a 129th order", w, orders("bob", 5, "b"), api.ErrBound, 0)
}

func TestLook(t *testing.T) {
	// The authorizations are 1 for a, and 3 for y.a, of ann, and 2 for b, of bob, which alone has its token.
	w := grown(t)
	x := does(t, "seen", w, look("bob", 2), api.OK, 3)
	auth := x.Front.Auths[1]
	if auth.State != api.Valid || auth.At != 3 || auth.Until != 53 || last(x.Events) != (api.Event{Kind: api.SeenE, At: 3, Who: "bob", Name: "b", N: 2}) || len(x.Events) != len(w.Events)+1 {
		t.Errorf("the authorization is %v, the event %v", auth, last(x.Events))
	}
	does(t, "it is valid", x, look("bob", 2), api.ErrState, 0)
	y := does(t, "not seen", w, look("ann", 3), api.ErrVotes, 0)
	if auth := y.Front.Auths[2]; auth.State != api.Failed || auth.Until != 0 || last(y.Events) != (api.Event{Kind: api.SeenE, At: 3, Who: "ann", Name: "y.a", N: 3}) {
		t.Errorf("the authorization is %v, the event %v", auth, last(y.Events))
	}
	if len(y.Caches[0].L) <= len(w.Caches[0].L) {
		t.Errorf("the caches are %v", y.Caches)
	}
	// What was seen then is not what is seen anew.
	y = doesAll(t, y, token("ann", 3))
	does(t, "seen anew", y, look("ann", 3), api.OK, 3)
	for _, n := range []int{-1, 0, 1, 3, 4, 1 << 40, 1<<40 + 1, math.MinInt} {
		want := api.ErrNone
		if n < 0 || n > 1<<40 {
			want = api.ErrArg
		}
		does(t, "none of his", w, look("bob", n), want, 0)
	}
	for _, who := range []string{"cid", ""} {
		does(t, "nobody", w, look(who, 2), api.ErrAccount, 0)
	}
	does(t, "a busy door", busy(w), look("bob", 2), api.ErrBound, 0)
	does(t, "a busy door, nobody", busy(w), look("cid", 2), api.ErrAccount, 0)
	does(t, "too late for an authorization", at(w, api.MaxTime-49), look("bob", 2), api.ErrArg, 0)
	does(t, "not too late for an authorization", at(w, api.MaxTime-50), look("bob", 2), api.OK, 3)
	does(t, "too late, and not seen", at(w, api.MaxTime-49), look("ann", 3), api.ErrArg, 0)
	long := strings.Repeat("abcdefghijklmno.", 3) + "abcdefghijklm"
	z := doesAll(t, begin(t), own("ann", long), join("ann"), orders("ann", 5, long))
	does(t, "no token's name", z, look("ann", 1), api.ErrName, 0)
	does(t, "no token's name, too late", at(z, api.MaxTime-49), look("ann", 1), api.ErrName, 0)
}

func TestLookThatIsRedirected(t *testing.T) {
	w := grown(t)
	seal := api.Rec{Name: "_seal.b", Kind: api.TextK, Value: "2-2", Life: 9}
	gone := doesAll(t, w, drop("bob", api.Rec{Name: "_seal.b", Kind: api.TextK, Value: "2-2"}))
	for bits := range 8 {
		x, y, bends := w, doesAll(t, gone, fake(seal)), 0
		for seen := range 3 {
			if bits>>seen&1 == 1 {
				x, y = doesAll(t, x, bend(seen, 0, 7)), doesAll(t, y, bend(seen, 0, 7))
				bends++
			}
		}
		e := api.OK
		if 3-bends < 2 {
			e = api.ErrVotes
		}
		x = does(t, "its token", x, look("bob", 2), e, 3-bends)
		e = api.OK
		if bends < 2 {
			e = api.ErrVotes
		}
		y = does(t, "the adversary's token", y, look("bob", 2), e, bends)
		for _, w := range []api.World{x, y} {
			if last(w.Events).M != bends {
				t.Errorf("the event is %v, where %d are redirected", last(w.Events), bends)
			}
		}
	}
	// Two bends of one vantage point are one.
	x := doesAll(t, w, bend(2, 0, 7), bend(2, 1, 7))
	if x = does(t, "its token", x, look("bob", 2), api.OK, 2); last(x.Events).M != 1 {
		t.Errorf("the event is %v", last(x.Events))
	}
	// More are needed, or fewer.
	all := but(doesAll(t, w, bend(2, 0, 7)), func(w *api.World) { w.Need = 3 })
	does(t, "three are needed", all, look("bob", 2), api.ErrVotes, 2)
	few := but(doesAll(t, w, bend(2, 0, 7), bend(1, 0, 7)), func(w *api.World) { w.Need = 1 })
	does(t, "one is needed", few, look("bob", 2), api.OK, 1)
}

func TestLookByWhoMayIssue(t *testing.T) {
	w := grown(t)
	caa := func(value string) api.Rec {
		return api.Rec{Name: "b", Kind: api.CaaK, Value: value, Life: 9}
	}
	does(t, "another one may issue", doesAll(t, w, put("bob", caa("other"))), look("bob", 2), api.ErrVotes, 0)
	does(t, "this one may issue", doesAll(t, w, put("bob", caa("greatseal"))), look("bob", 2), api.OK, 3)
	does(t, "both may issue", doesAll(t, w, put("bob", caa("other")), put("bob", caa("greatseal"))), look("bob", 2), api.OK, 3)
}

// TestLookKeepsOthers: what caches keep of other names is used, and stays.
func TestLookKeepsOthers(t *testing.T) {
	w := grown(t)
	kept := func(name string, kind int, value string) api.Kept {
		return api.Kept{Name: name, Kind: kind, Recs: []api.Rec{{Name: name, Kind: kind, Value: value, Life: 9}}, Until: 90}
	}
	with := func(l ...api.Kept) api.World {
		return but(w, func(w *api.World) {
			for at := range w.Caches {
				w.Caches[at].L = slices.Clone(l)
			}
		})
	}
	x := does(t, "another token is kept", with(kept("_seal.b", api.TextK, "other")), look("bob", 2), api.OK, 3)
	if l := x.Caches[0].L; len(l) != 2 || l[0].Recs[0].Value != "2-2" {
		t.Errorf("the cache keeps %v", l)
	}
	x = does(t, "more is kept of it", with(kept("_seal.b", api.TextK, "other"), kept("_seal.b", api.HostK, "h"), kept("_seal.c", api.TextK, "c")), look("bob", 2), api.OK, 3)
	if l := x.Caches[2].L; len(l) != 3 || l[1].Name != "_seal.c" || l[2].Name != "b" {
		t.Errorf("the cache keeps %v", l)
	}
	does(t, "it is kept who may issue", with(kept("b", api.CaaK, "other")), look("bob", 2), api.ErrVotes, 0)
	does(t, "it is kept who may issue, and is this one", with(kept("b", api.CaaK, "greatseal")), look("bob", 2), api.OK, 3)
}

// ready is a world in which the order 1 of ann, for those names, may be issued.
func ready(t *testing.T, life int, names ...string) api.World {
	t.Helper()
	w := doesAll(t, begin(t), join("ann"))
	for _, name := range names {
		w = doesAll(t, w, own("ann", name))
	}
	w = doesAll(t, w, orders("ann", life, names...))
	for k := range names {
		w = doesAll(t, w, token("ann", k+1), look("ann", k+1))
	}
	return w
}

func TestIssue(t *testing.T) {
	w := at(ready(t, 40, "b", "q.a"), 5)
	x := does(t, "a certificate", w, issues("ann", 1), api.OK, 1)
	c := x.Certs[0]
	if c.Serial != 1 || c.Issuer != "greatseal" || c.Key != 16 || !slices.Equal(c.Names, []string{"b", "q.a"}) || c.From != 5 || c.Until != 45 || len(c.Proms) != 2 || len(x.Certs) != 1 {
		t.Errorf("the certificate is %v", c)
	}
	body, _ := cert.Body(c)
	if e := sign.Check(w.Crew.Key, body, c.Sig); e != api.OK {
		t.Errorf("it is not signed: %d", e)
	}
	pre, _ := cert.Pre(c)
	for at, l := range x.Logs {
		if len(l.L) != 0 || !same(l.Wait, []api.Leaf{{Body: pre, At: 5}}) || logd.CheckPromise(world.Keys(x)[at], c.Proms[at]) != api.OK {
			t.Errorf("the log %d has %v", at, l.Wait)
		}
	}
	if x.Session != 1 || x.Front.Orders[0].State != api.Issued || x.Front.Orders[0].Serial != 1 || !same(x.Revs, api.Revs{Live: []int{1}}) || !same(x.Spent, []api.Spent{{Account: 1, Rule: 0, Since: 5, Many: 1}}) || last(x.Events) != (api.Event{Kind: api.IssuedE, At: 5, Who: "ann", N: 1, M: 1}) {
		t.Errorf("the world is %v", x)
	}
	if len(x.Signers[0].Done) != 1 || len(x.Signers[1].Done) != 1 || len(x.Signers[2].Done) != 0 {
		t.Errorf("others have signed: %v", x.Signers)
	}
	does(t, "it was issued", x, issues("ann", 1), api.ErrState, 0)
	x = doesAll(t, x, orders("ann", 30, "b"))
	x = does(t, "the next one", x, issues("ann", 2), api.OK, 2)
	if x.Session != 2 || last(x.Events).N != 2 || last(x.Events).M != 2 {
		t.Errorf("the event is %v", last(x.Events))
	}
}

func TestIssueOfWhatMayNot(t *testing.T) {
	w := ready(t, 40, "b")
	w = doesAll(t, w, join("bob"), orders("ann", 40, "a"), orders("ann", 40, "b"))
	for _, n := range []int{0, 4, 5, 1 << 40} {
		does(t, "none", w, issues("ann", n), api.ErrNone, 0)
	}
	does(t, "no number", w, issues("ann", -1), api.ErrArg, 0)
	does(t, "another one's", w, issues("bob", 1), api.ErrNone, 0)
	for _, who := range []string{"cid", ""} {
		does(t, "nobody", w, issues(who, 1), api.ErrAccount, 0)
	}
	does(t, "a busy door", busy(w), issues("ann", 1), api.ErrBound, 0)
	does(t, "not seen yet", w, issues("ann", 2), api.ErrState, 0)
	does(t, "by what was seen ahead of it", w, issues("ann", 3), api.OK, 1)
	does(t, "to the moment", at(w, 50), issues("ann", 1), api.OK, 1)
	does(t, "too long ago", at(w, 51), issues("ann", 1), api.ErrState, 0)
	// What the policy says.
	does(t, "a life that is too long", ready(t, 51, "b"), issues("ann", 1), api.ErrRule, 0)
	does(t, "a life that is not", ready(t, 50, "b"), issues("ann", 1), api.OK, 1)
	does(t, "a name that is refused", ready(t, 40, "b", "q.x.a"), issues("ann", 1), api.ErrRule, 0)
	does(t, "a name of which nobody decides", ready(t, 40, "q.b"), issues("ann", 1), api.ErrRule, 0)
	weak := doesAll(t, ready(t, 40, "c"), api.Do{Kind: api.OrderDo, Who: "ann", Names: []string{"c"}, Key: 4, N: 40})
	does(t, "a key that is too small", weak, issues("ann", 2), api.ErrRule, 0)
	does(t, "a key that is not", weak, issues("ann", 1), api.OK, 1)
}

func TestIssueOfMany(t *testing.T) {
	w := at(ready(t, 40, "b"), 5)
	for n := range 4 {
		w = doesAll(t, w, orders("ann", 40, "b"))
		if n < 3 {
			w = does(t, "in the budget", w, issues("ann", n+1), api.OK, n+1)
		}
	}
	does(t, "the budget is spent", w, issues("ann", 4), api.ErrSpent, 0)
	does(t, "the budget is spent", at(w, 14), issues("ann", 4), api.ErrSpent, 0)
	does(t, "it is there anew", at(w, 15), issues("ann", 4), api.OK, 4)
	if len(w.Spent) != 1 || w.Spent[0].Many != 3 {
		t.Errorf("spent is %v", w.Spent)
	}
}

// TestErrorsOfIssue: each error ahead of each one behind it.
func TestErrorsOfIssue(t *testing.T) {
	type fault struct {
		what string
		e    api.Errno
		do   func(w *api.World)
	}
	faults := []fault{
		{"no account", api.ErrAccount, func(w *api.World) { w.Front.Accounts[0].Key = 16 }},
		{"a busy door", api.ErrBound, func(w *api.World) { *w = busy(*w) }},
		{"not seen", api.ErrState, func(w *api.World) { a := &w.Front.Auths[0]; a.State, a.At, a.Until = api.Failed, 0, 0 }},
		{"no rule", api.ErrRule, func(w *api.World) { w.Policy, _ = policy.Compile(nil) }},
		{"spent", api.ErrSpent, func(w *api.World) { w.Spent = []api.Spent{{Account: 1, Since: w.Now, Many: 3}} }},
		{"a life behind all time", api.ErrArg, func(w *api.World) { w.Front.Orders[0].Life = 50; later(w) }},
		{"logs that are full", api.ErrPromise, func(w *api.World) { fill(w, 0) }},
		{"signers that are down", api.ErrCrew, func(w *api.World) { down(w, 1); down(w, 3) }},
		{"a door with greater numbers", api.ErrArg, func(w *api.World) { w.Front.Serial = 5 }},
		{"a number that is there", api.ErrState, func(w *api.World) { w.Revs.Live = []int{1, 9} }},
	}
	for k, first := range faults {
		w := ready(t, 40, "b")
		does(t, first.what, but(w, first.do), issues("ann", 1), first.e, 0)
		for _, second := range faults[k+1:] {
			// Whose time is over is seen first: so these two do not go together.
			does(t, first.what+", "+second.what, but(but(w, second.do), first.do), issues("ann", 1), first.e, 0)
		}
	}
	full := but(ready(t, 40, "b"), func(w *api.World) {
		for k := range 256 {
			w.Revs.Live = append(w.Revs.Live, k+2)
		}
	})
	does(t, "too many numbers", full, issues("ann", 1), api.ErrBound, 0)
	does(t, "a session too many", but(ready(t, 40, "b"), func(w *api.World) { w.Session = api.MaxTime }), issues("ann", 1), api.ErrCrew, 0)
	does(t, "the last session", but(ready(t, 40, "b"), func(w *api.World) { w.Session = api.MaxTime - 1 }), issues("ann", 1), api.OK, 1)
	does(t, "one log is full", but(ready(t, 40, "b"), func(w *api.World) { fill(w, 1) }), issues("ann", 1), api.ErrPromise, 0)
	does(t, "one signer is down", but(ready(t, 40, "b"), func(w *api.World) { down(w, 1) }), issues("ann", 1), api.OK, 1)
}

// later moves all to where a life of 50 goes behind all time.
func later(w *api.World) {
	w.Now = api.MaxTime - 30
	for at := range w.Front.Auths {
		if a := &w.Front.Auths[at]; a.State == api.Valid {
			a.At, a.Until = w.Now, w.Now+50
		}
	}
	for at := range w.Spent {
		w.Spent[at].Since = w.Now
	}
}

func fill(w *api.World, log int) {
	l := &w.Logs[log]
	for k := range 256 - len(l.L) - len(l.Wait) {
		l.L = append(l.L, api.Leaf{Body: []byte(fmt.Sprint("leaf ", k)), At: 0})
	}
}

func down(w *api.World, id int) { w.Signers[id-1].Up, w.Signers[id-1].Done = false, nil }

func TestRevoke(t *testing.T) {
	w := at(issued(t), 30)
	x := does(t, "her own", w, revokes("ann", 1), api.OK, 0)
	if !same(x.Revs, api.Revs{Live: []int{1}, Gone: []int{1}}) || last(x.Events) != (api.Event{Kind: api.RevokedE, At: 30, Who: "ann", N: 1}) || len(x.Events) != len(w.Events)+1 {
		t.Errorf("revoked is %v, the event %v", x.Revs, last(x.Events))
	}
	does(t, "it is gone", x, revokes("ann", 1), api.ErrGone, 0)
	does(t, "another one's", w, revokes("bob", 1), api.ErrNone, 0)
	for _, who := range []string{"cid", ""} {
		does(t, "nobody", w, revokes(who, 1), api.ErrAccount, 0)
	}
	for _, n := range []int{0, 2, 1 << 40} {
		does(t, "none", w, revokes("ann", n), api.ErrNone, 0)
	}
	does(t, "no number", w, revokes("ann", -1), api.ErrArg, 0)
	does(t, "a busy door", busy(w), revokes("ann", 1), api.ErrBound, 0)
	does(t, "none of those that were issued", but(w, func(w *api.World) { w.Revs = api.Revs{} }), revokes("ann", 1), api.ErrNone, 0)
	does(t, "gone already", but(w, func(w *api.World) { w.Revs = api.Revs{Live: []int{0, 1, 7}, Gone: []int{1}} }), revokes("ann", 1), api.ErrGone, 0)
}

// P32.3: the crew

func TestBad(t *testing.T) {
	w := at(issued(t), 30)
	for n := 1; n <= 3; n++ {
		x := does(t, "bad", w, bad(n), api.OK, 0)
		for at, s := range x.Signers {
			if s.Bad != (at == n-1) {
				t.Errorf("the signers are %v", x.Signers)
			}
		}
		if last(x.Events) != (api.Event{Kind: api.BadE, At: 30, N: n}) || len(x.Events) != len(w.Events)+1 {
			t.Errorf("the event is %v", last(x.Events))
		}
		if x = does(t, "bad still", x, bad(n), api.OK, 0); len(x.Events) != len(w.Events)+2 {
			t.Errorf("the events are %v", x.Events)
		}
	}
	for _, n := range []int{math.MinInt, -1, 0, 4, 5, math.MaxInt} {
		does(t, "none", w, bad(n), api.ErrArg, 0)
		does(t, "none", w, crash(n, 0), api.ErrArg, 0)
		does(t, "none", w, back(n), api.ErrArg, 0)
	}
}

func TestCrashAndBack(t *testing.T) {
	w := issued(t)
	for n := 1; n <= 3; n++ {
		x := does(t, "crashed", w, crash(n, 0), api.OK, 0)
		if s := x.Signers[n-1]; s.Up || len(s.Done) != 0 || len(x.Events) != len(w.Events) {
			t.Errorf("the signer is %v", s)
		}
		does(t, "down already", x, crash(n, 0), api.ErrState, 0)
		if y := does(t, "back", x, back(n), api.OK, 0); !same(y, w) {
			t.Errorf("it is not as it was")
		}
		does(t, "up already", w, back(n), api.ErrState, 0)
	}
	// Of what is not safe as many bytes are kept as the key says, modulo 64.
	open := but(w, func(w *api.World) {
		s := &w.Signers[0].Store
		s.Safe, s.Open = nil, s.Safe
	})
	if len(open.Signers[0].Store.Open) != 52 {
		t.Fatal(open.Signers[0].Store)
	}
	for _, x := range []struct {
		key  uint64
		kept int
	}{{0, 0}, {1, 1}, {51, 51}, {52, 52}, {53, 52}, {63, 52}, {64, 0}, {65, 1}, {127, 52}, {128, 0}, {1 << 63, 0}, {math.MaxUint64, 52}, {math.MaxUint64 - 60, 3}} {
		y := does(t, "crashed", open, crash(1, x.key), api.OK, 0)
		if s := y.Signers[0].Store; len(s.Safe) != x.kept || len(s.Open) != 0 {
			t.Errorf("with the key %d the store is %v", x.key, s)
		}
		y = doesAll(t, y, back(1))
		if many := len(y.Signers[0].Done); many != x.kept/52 {
			t.Errorf("with the key %d %d are done", x.key, many)
		}
	}
	torn := but(w, func(w *api.World) {
		s := &w.Signers[0]
		s.Up, s.Done = false, nil
		s.Store.Safe = append(s.Store.Safe, frameOf("no such bytes")...)
	})
	does(t, "a store that tells nothing", torn, back(1), api.ErrTorn, 0)
}

func TestRogue(t *testing.T) {
	w := at(issued(t), 30)
	does(t, "none is bad", w, rogue(4, "q.a"), api.ErrNone, 0)
	does(t, "none is bad, and no names", w, rogue(0), api.ErrNone, 0)
	does(t, "one is bad, but down", doesAll(t, w, bad(2), crash(2, 0)), rogue(4, "q.a"), api.ErrNone, 0)
	for bits := 1; bits < 8; bits++ {
		x := w
		var ids []int
		for id := 1; id <= 3; id++ {
			if bits>>(id-1)&1 == 1 {
				x = doesAll(t, x, bad(id))
				ids = append(ids, id)
			}
		}
		ids = ids[:min(2, len(ids))]
		y := does(t, "rogues", x, rogue(4, "q.a", "r"), api.OK, len(ids))
		if y.Session != 2 || len(y.Reports) != len(ids) || !same(y.Certs, x.Certs) || !same(y.Events, x.Events) {
			t.Errorf("the world is %v", y)
		}
		body, _ := cert.Body(api.Cert{Serial: 2, Issuer: "greatseal", Key: 4, Names: []string{"q.a", "r"}, From: 30, Until: 40})
		for k, r := range y.Reports {
			if r.Kind != api.RogueR || r.Party != ids[k] || len(r.Commits) != 2 || string(r.Body) != string(body) {
				t.Errorf("the report is %v", r)
			}
			if e := report.Check(r, world.Keys(y), y.Crew, y.Policy); e != api.OK {
				t.Errorf("the report proves nothing: %d", e)
			}
		}
		// In another session the same is another thing.
		y = does(t, "rogues again", y, rogue(4, "q.a", "r"), api.OK, 2*len(ids))
		if y.Session != 3 {
			t.Errorf("the session is %d", y.Session)
		}
	}
}

func TestRogueWith(t *testing.T) {
	w := at(issued(t), 30)
	// Whom the rogues take along.
	for _, x := range []struct {
		bad, down []int
		ids       []int
	}{{[]int{1}, nil, []int{1, 2}}, {[]int{2}, nil, []int{1, 2}}, {[]int{3}, nil, []int{1, 3}}, {[]int{3}, []int{1, 2}, []int{1, 3}}, {[]int{1, 3}, []int{1}, []int{1, 3}}, {[]int{2, 3}, []int{2}, []int{1, 3}}, {[]int{1, 2, 3}, []int{1}, []int{2, 3}}, {[]int{1, 2, 3}, nil, []int{1, 2}}} {
		y := w
		for _, id := range x.bad {
			y = doesAll(t, y, bad(id))
		}
		for _, id := range x.down {
			y = doesAll(t, y, crash(id, 0))
		}
		z, told := world.Do(y, rogue(4, "q.a"))
		z = does(t, "rogues", y, rogue(4, "q.a"), api.OK, told.N)
		var ids []int
		for _, s := range last(z.Reports).Commits {
			ids = append(ids, s.Id)
		}
		if !slices.Equal(ids, x.ids) {
			t.Errorf("%v with %v down take %v", x.bad, x.down, ids)
		}
	}
	one := doesAll(t, w, bad(3))
	for _, names := range [][]string{nil, {""}, {"A"}, {"a", "a"}, {"1", "2", "3", "4", "5", "6", "7", "8", "9"}} {
		does(t, "no names", one, rogue(4, names...), api.ErrArg, 0)
	}
	for _, key := range []uint64{0, api.Q, math.MaxUint64} {
		does(t, "no key", one, rogue(key, "a"), api.ErrArg, 0)
	}
	does(t, "a key that is none of the group", one, rogue(2, "a"), api.OK, 1)
	does(t, "behind all time", at(one, api.MaxTime-9), rogue(4, "a"), api.ErrArg, 0)
	does(t, "as late as may be", at(one, api.MaxTime-10), rogue(4, "a"), api.OK, 1)
	does(t, "a session too many", but(one, func(w *api.World) { w.Session = api.MaxTime }), rogue(4, "a"), api.ErrArg, 0)
	does(t, "the last session", but(one, func(w *api.World) { w.Session = api.MaxTime - 1 }), rogue(4, "a"), api.OK, 1)
	// A report that there is is not put behind once more.
	x := doesAll(t, one, rogue(4, "q.a"))
	x.Session = one.Session
	if y := does(t, "the same again", x, rogue(4, "q.a"), api.OK, 1); len(y.Reports) != 1 {
		t.Errorf("the reports are %v", y.Reports)
	}
	// A great crew.
	v, e := world.New([]byte("seed"), 4, 7, 1, 1, nil, []string{"ann"})
	if e != api.OK {
		t.Fatal(e)
	}
	v = doesAll(t, v, bad(7), bad(4), bad(2), crash(2, 0), rogue(4, "a"))
	if len(v.Reports) != 2 || v.Reports[0].Party != 4 || v.Reports[1].Party != 7 || last(v.Reports).Commits[1].Id != 2 {
		t.Errorf("the reports are %v", v.Reports)
	}
	if e := quorum.CheckPart(v.Crew, v.Reports[1].Body, v.Reports[1].Commits, v.Reports[1].Part); e != api.OK {
		t.Errorf("the part is not right: %d", e)
	}
	// A share that is not the crew's own shows nothing, but is put behind all the same.
	other := but(one, func(w *api.World) { w.Signers[2], _ = signer.New(api.Share{Id: 3, X: 5}); w.Signers[2].Bad = true })
	does(t, "another share", other, rogue(4, "q.a"), api.OK, 1)
}
