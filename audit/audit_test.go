package audit_test

import (
	"math"
	"math/rand"
	"reflect"
	"slices"
	"strconv"
	"testing"

	"greatseal/api"
	"greatseal/audit"
	"greatseal/cert"
	"greatseal/cyclic"
	"greatseal/hash"
	"greatseal/logd"
	"greatseal/names"
	"greatseal/policy"
	"greatseal/quorum"
	"greatseal/report"
	"greatseal/rule"
	"greatseal/sign"
	"greatseal/world"
)

// copied is a value that shares nothing with another one.
func copied[T any](x T) T { return deep(reflect.ValueOf(x)).Interface().(T) }

func deep(v reflect.Value) reflect.Value {
	x := reflect.New(v.Type()).Elem()
	switch v.Kind() {
	case reflect.Slice:
		for k := range v.Len() {
			x = reflect.Append(x, deep(v.Index(k)))
		}
	case reflect.Struct:
		for k := range v.NumField() {
			x.Field(k).Set(deep(v.Field(k)))
		}
	default:
		x.Set(v)
	}
	return x
}

func but(w api.World, change func(w *api.World)) api.World {
	w = copied(w)
	change(&w)
	return w
}

func keyOf(who string) uint64 {
	key, _ := sign.Public(sign.Secret(hash.Bytes(hash.Tagged("account", []byte(who)))))
	return key
}

func begin(t *testing.T, clients ...string) api.World {
	t.Helper()
	rules, _, _ := rule.Parse([]byte("allow w { a, *.a, b, *.b; life 50; most 9 per 30; } refuse no { *.x.a; }"))
	w, e := world.New([]byte("seed"), 2, 3, 3, 2, rules, clients)
	if e != api.OK {
		t.Fatal(e)
	}
	return w
}

func does(t *testing.T, w api.World, l ...api.Do) api.World {
	t.Helper()
	for _, d := range l {
		var told api.Told
		if w, told = world.Do(w, d); told.E != api.OK {
			t.Fatalf("%v tells %v", d, told)
		}
	}
	return w
}

func do(kind int, who string, n int) api.Do { return api.Do{Kind: kind, Who: who, N: n} }

func own(who, name string) api.Do { return api.Do{Kind: api.OwnDo, Who: who, Name: name} }

func orders(who string, life int, all ...string) api.Do {
	return api.Do{Kind: api.OrderDo, Who: who, Names: all, Key: 16, N: life}
}

func visit(who, name string, n int) api.Do {
	return api.Do{Kind: api.VisitDo, Who: who, Name: name, N: n}
}

// seen is a world in which the order 1 of ann, for a and y.a, may be issued; both names are hers by a.
func seen(t *testing.T) api.World {
	t.Helper()
	return does(t, begin(t, "ann", "bob", "cid"), own("zoe", "a"), own("ann", "a"), do(api.JoinDo, "bob", 0), do(api.JoinDo, "ann", 0), do(api.TickDo, "", 3), orders("ann", 50, "a", "y.a"),
		do(api.TokenDo, "ann", 1), do(api.TokenDo, "ann", 2), do(api.LookDo, "ann", 1), do(api.TickDo, "", 1), do(api.LookDo, "ann", 2))
}

// accepted is a world in which two certificates were issued, the first one of which two clients have accepted.
func accepted(t *testing.T) api.World {
	t.Helper()
	w := does(t, seen(t), do(api.TickDo, "", 6), do(api.IssueDo, "ann", 1), orders("ann", 40, "y.a"), do(api.IssueDo, "ann", 2), do(api.TickDo, "", 20))
	for n := range 2 {
		w = does(t, w, do(api.FetchDo, "ann", n), do(api.FetchDo, "bob", n))
	}
	w = does(t, w, do(api.DayDo, "ann", 0), visit("ann", "a", 1), visit("bob", "y.a", 1))
	if e := audit.Judge(w); e != api.OK {
		t.Fatalf("Judge is %d", e)
	}
	return w
}

// ofKind is the place of the last event of a kind.
func ofKind(w api.World, kind int) int {
	for at := len(w.Events) - 1; at >= 0; at-- {
		if w.Events[at].Kind == kind {
			return at
		}
	}
	return -1
}

func last(w api.World) api.Event { return w.Events[ofKind(w, api.AcceptedE)] }

func told(e ...api.Event) api.World {
	return api.World{Need: 2, Crew: api.Crew{T: 3}, Events: e}
}

// P33.1

func TestFair(t *testing.T) {
	is := func(what string, w api.World, want bool) {
		t.Helper()
		if audit.Fair(w) != want {
			t.Errorf("%s: Fair of %v is not %t", what, w.Events, want)
		}
	}
	is("nothing was", told(), true)
	is("nothing is", api.World{}, false)
	for _, m := range []int{math.MinInt, -1, 0, 1} {
		is("few are redirected", told(api.Event{Kind: api.SeenE, M: m}, api.Event{Kind: api.SeenE, M: m}), true)
	}
	for _, m := range []int{2, 3, math.MaxInt} {
		is("as many as are needed are redirected", told(api.Event{Kind: api.SeenE, M: m}), false)
		is("once as many as are needed were redirected", told(api.Event{Kind: api.SeenE, M: m}, api.Event{Kind: api.SeenE}, api.Event{Kind: 99}), false)
		is("in the end as many as are needed are redirected", told(api.Event{Kind: 99}, api.Event{Kind: api.SeenE, M: 1}, api.Event{Kind: api.SeenE, M: m}), false)
		for _, kind := range []int{api.OwnedE, api.OrderedE, api.IssuedE, api.AcceptedE, api.RevokedE, 0, 9} {
			is("another event", told(api.Event{Kind: kind, N: 1, M: m}, api.Event{Kind: kind, N: 2, M: m}, api.Event{Kind: kind, N: 3, M: m}), true)
		}
		is("the M of other events", told(api.Event{Kind: api.BadE, N: 1, M: m}, api.Event{Kind: api.SplitE, N: 1, M: m}), true)
		is("the N of what was seen", told(api.Event{Kind: api.SeenE, N: 2}, api.Event{Kind: api.SeenE, N: 3}, api.Event{Kind: api.SeenE, N: m}), true)
	}
	bad := func(l ...int) (all []api.Event) {
		for _, n := range l {
			all = append(all, api.Event{Kind: api.BadE, N: n})
		}
		return all
	}
	split := func(l ...int) []api.Event {
		all := bad(l...)
		for at := range all {
			all[at].Kind = api.SplitE
		}
		return all
	}
	for size, want := range map[int]bool{math.MinInt: false, 0: false, 1: false, 2: false, 3: true, 4: true, math.MaxInt: true} {
		w := told(bad(1, 2, 1, 2, 2)...)
		w.Crew.T = size
		is("two are bad", w, want)
		w.Events = bad(7)
		is("one is bad", w, size > 1)
		w.Events = nil
		is("none is bad", w, size > 0)
	}
	is("three are bad", told(bad(1, 2, 3)...), false)
	is("three are bad, of any number", told(bad(-1, 0, 99)...), false)
	is("one is split", told(split(0)...), true)
	is("one is split twice", told(split(1, 1)...), true)
	is("two are split", told(split(0, 1)...), false)
	is("two are split, of any number", told(split(-5, 7)...), false)
	is("two are bad, and one is split", told(append(bad(0, 1), split(2, 2)...)...), true)
}

// owner is who has a name, as the chapter says.
func owner(l []api.Event, name string, now int) string {
	for ; name != ""; name = names.Up(name) {
		who, found := "", false
		for _, e := range l {
			if e.Kind == api.OwnedE && e.Name == name && e.At <= now {
				who, found = e.Who, true
			}
		}
		if found {
			return who
		}
	}
	return ""
}

func TestOwner(t *testing.T) {
	is := func(l []api.Event, name string, now int, want string) {
		t.Helper()
		if x := audit.Owner(l, name, now); x != want {
			t.Errorf("Owner of %s at %d, of %v, is %s, not %s", name, now, l, x, want)
		}
		if x := owner(l, name, now); x != want {
			t.Errorf("by the chapter's words Owner of %s at %d, of %v, is %s, not %s", name, now, l, x, want)
		}
	}
	has := func(at int, who, name string) api.Event {
		return api.Event{Kind: api.OwnedE, At: at, Who: who, Name: name}
	}
	// The chapter's example.
	l := []api.Event{has(1, "ann", "a"), has(2, "bob", "x.a")}
	is(l, "y.x.a", 2, "bob")
	is(l, "y.a", 2, "ann")
	is(l, "x.a", 1, "ann")
	is(l, "z.y.x.a", 9, "bob")
	for _, now := range []int{math.MinInt, -1, 0} {
		is(l, "x.a", now, "")
		is(l, "a", now, "")
	}
	for _, name := range []string{"", "b", "ax", "xa", "a.b", "A"} {
		is(l, name, 9, "")
	}
	// Told anew; the last one that was told counts, not the latest one.
	l = append(l, has(5, "cid", "a"), has(3, "dan", "a"))
	for now, want := range map[int]string{1: "ann", 2: "ann", 3: "dan", 4: "dan", 5: "dan", 99: "dan"} {
		is(l, "a", now, want)
		is(l, "q.a", now, want)
	}
	l = append(l, has(7, "eve", "x.a"), has(math.MaxInt, "fay", "x.a"), has(math.MinInt, "gil", "y.x.a"))
	is(l, "x.a", 6, "bob")
	is(l, "x.a", 7, "eve")
	is(l, "x.a", math.MaxInt, "fay")
	is(l, "y.x.a", math.MinInt, "gil")
	is(l, "q.x.a", math.MaxInt-1, "eve")
	// Other events tell nothing of it.
	for kind := range 10 {
		if e := has(8, "hal", "a"); kind != api.OwnedE {
			e.Kind = kind
			is(append(slices.Clone(l), e), "a", 9, "dan")
		}
	}
	is(append(slices.Clone(l), has(8, "", "a")), "a", 9, "")
	is(append(slices.Clone(l), has(8, "", "x.a")), "y.x.a", math.MinInt, "gil")
	// What is no name is a text, above which there is nothing.
	odd := []api.Event{has(1, "ann", "A.a"), has(1, "bob", "a"), has(1, "cid", ""), has(1, "dan", "a..a")}
	is(odd, "A.a", 1, "ann")
	is(odd, "B.a", 1, "")
	is(odd, "a..a", 1, "dan")
	is(odd, "b..a", 1, "")
	is(odd, "", 1, "")
	is(odd, "b", 1, "")
	is(odd, "q.a", 1, "bob")
	is(nil, "a", 1, "")
	chance := rand.New(rand.NewSource(33))
	pool := []string{"a", "x.a", "y.x.a", "b", "", "q.y.x.a"}
	for range 2000 {
		var l []api.Event
		for range chance.Intn(7) {
			l = append(l, api.Event{Kind: 1 + chance.Intn(2), At: chance.Intn(5), Who: string(rune('p' + chance.Intn(3))), Name: pool[chance.Intn(6)]})
		}
		name, now := pool[chance.Intn(6)], chance.Intn(6)-1
		is(l, name, now, owner(l, name, now))
	}
}

// P33.2

// ordered is whether a certificate was, as the chapter says.
func ordered(w api.World, e api.Event) bool {
	site := slices.IndexFunc(w.Certs, func(c api.Cert) bool { return c.Serial == e.N })
	issue := slices.IndexFunc(w.Events, func(x api.Event) bool { return x.Kind == api.IssuedE && x.N == e.N })
	if site < 0 || issue < 0 {
		return false
	}
	order := slices.IndexFunc(w.Front.Orders, func(o api.Order) bool { return o.Id == w.Events[issue].M })
	if order < 0 {
		return false
	}
	o := w.Front.Orders[order]
	account := slices.IndexFunc(w.Front.Accounts, func(a api.Account) bool { return a.Id == o.Account })
	if account < 0 {
		return false
	}
	for _, name := range w.Certs[site].Names {
		fine := false
		for _, a := range w.Front.Auths {
			if !slices.Contains(o.Auths, a.Id) || a.Name != name {
				continue
			}
			last := -1
			for at := range issue {
				if w.Events[at].Kind == api.SeenE && w.Events[at].N == a.Id {
					last = at
				}
			}
			if last < 0 {
				continue
			}
			s := w.Events[last]
			fine = fine || s.Name == name && w.Events[issue].At-s.At <= 50 && w.Front.Accounts[account].Key == keyOf(owner(w.Events[:last], name, s.At))
		}
		if !fine {
			return false
		}
	}
	return true
}

// ruled is whether a certificate was allowed, as the chapter says.
func ruled(w api.World, e api.Event) bool {
	for _, c := range w.Certs {
		if c.Serial != e.N {
			continue
		}
		for _, issue := range w.Events {
			if issue.Kind != api.IssuedE || issue.N != e.N {
				continue
			}
			for _, o := range w.Front.Orders {
				if o.Id != issue.M {
					continue
				}
				if !slices.ContainsFunc(w.Front.Accounts, func(a api.Account) bool { return a.Id == o.Account }) {
					return false
				}
				v, e := policy.Means(w.Policy.Rules, api.Wish{Account: o.Account, Names: c.Names, Key: c.Key, Life: c.Until - c.From})
				return e == api.OK && v.Allow
			}
			return false
		}
		return false
	}
	return false
}

func judges(t *testing.T, what string, w api.World, wantOrdered, wantRuled bool) {
	t.Helper()
	was := copied(w)
	for _, e := range []api.Event{last(w), {N: last(w).N}} {
		if x := audit.Ordered(w, e); x != wantOrdered {
			t.Errorf("%s: Ordered is %t", what, x)
		}
		if x := audit.Ruled(w, e); x != wantRuled {
			t.Errorf("%s: Ruled is %t", what, x)
		}
		if ordered(w, e) != wantOrdered || ruled(w, e) != wantRuled {
			t.Errorf("%s: by the chapter's words it is another one", what)
		}
	}
	if !reflect.DeepEqual(copied(w), was) {
		t.Errorf("%s: the world is changed", what)
	}
}

// The places of the events of accepted.
const (
	zoeHas = iota
	annHas
	firstOrdered
	firstSeen
	secondSeen
	firstIssued
	secondOrdered
	secondIssued
)

func TestEventsOfTheWorld(t *testing.T) {
	w := accepted(t)
	var kinds []int
	for _, e := range w.Events {
		kinds = append(kinds, e.Kind)
	}
	if !slices.Equal(kinds, []int{api.OwnedE, api.OwnedE, api.OrderedE, api.SeenE, api.SeenE, api.IssuedE, api.OrderedE, api.IssuedE, api.AcceptedE, api.AcceptedE}) {
		t.Fatal(w.Events)
	}
	judges(t, "as it is", w, true, true)
}

func TestOrderedOfWhatIsNotThere(t *testing.T) {
	for k, change := range []func(w *api.World){
		func(w *api.World) { w.Certs = nil },
		func(w *api.World) { w.Certs = w.Certs[1:] },
		func(w *api.World) { w.Certs[0].Serial = 9 },
		func(w *api.World) { w.Events[firstIssued].Kind = api.OrderedE },
		func(w *api.World) { w.Events[firstIssued].N = 9 },
		func(w *api.World) { w.Events[firstIssued].M = 9 },
		func(w *api.World) { w.Front.Orders[0].Id = 9 },
		func(w *api.World) { w.Front.Orders = nil },
		func(w *api.World) { w.Front.Orders[0].Account = 9 },
		func(w *api.World) { w.Front.Accounts = w.Front.Accounts[:1] },
		func(w *api.World) { w.Front.Accounts[1].Id = 7 },
	} {
		judges(t, "something is not there, "+strconv.Itoa(k), but(accepted(t), change), false, false)
	}
	for _, n := range []int{math.MinInt, -1, 0, 3, math.MaxInt} {
		w := but(accepted(t), func(w *api.World) { w.Events[len(w.Events)-1].N = n })
		judges(t, "no such number", w, false, false)
	}
	if w := (api.World{}); audit.Ordered(w, api.Event{}) || audit.Ruled(w, api.Event{}) {
		t.Errorf("in no world it is ordered, or ruled")
	}
}

// move puts an event at another place.
func move(l []api.Event, from, to int) []api.Event {
	e := l[from]
	l = slices.Delete(l, from, from+1)
	return slices.Insert(l, to, e)
}

func TestOrdered(t *testing.T) {
	w := accepted(t)
	issued := w.Events[firstIssued].At
	for _, x := range []struct {
		what   string
		want   bool
		change func(w *api.World)
	}{
		{"an authorization of another name", false, func(w *api.World) { w.Front.Auths[0].Name = "b" }},
		{"an authorization of another number", false, func(w *api.World) { w.Front.Auths[1].Id = 9 }},
		{"an order without an authorization", false, func(w *api.World) { w.Front.Orders[0].Auths = []int{1} }},
		{"an order with one more", true, func(w *api.World) { w.Front.Orders[0].Auths = []int{9, 2, 7, 1} }},
		{"no authorizations", false, func(w *api.World) { w.Front.Auths = nil }},
		{"the certificate has another name", false, func(w *api.World) { w.Certs[0].Names[0] = "b" }},
		{"the certificate has fewer names", true, func(w *api.World) { w.Certs[0].Names = []string{"y.a"} }},
		{"the certificate has no names", true, func(w *api.World) { w.Certs[0].Names = nil }},
		{"the certificate has one more", false, func(w *api.World) { w.Certs[0].Names = append(w.Certs[0].Names, "q.a") }},
		{"the state of the authorization says nothing", true, func(w *api.World) { w.Front.Auths[0].State = api.Failed }},
		{"the account of the authorization says nothing", true, func(w *api.World) { w.Front.Auths[0].Account = 1 }},
		{"never seen", false, func(w *api.World) { w.Events[firstSeen].Kind = api.OrderedE }},
		{"another one seen", false, func(w *api.World) { w.Events[secondSeen].N = 9 }},
		{"another name seen", false, func(w *api.World) { w.Events[secondSeen].Name = "a" }},
		{"seen behind the issue", false, func(w *api.World) { w.Events = move(w.Events, firstSeen, firstIssued) }},
		{"seen ahead of it in another order", true, func(w *api.World) { w.Events = move(w.Events, secondSeen, firstSeen) }},
		{"seen anew", true, func(w *api.World) { w.Events = slices.Insert(w.Events, firstIssued, w.Events[firstSeen]) }},
		{"another name seen with that number anew", false, func(w *api.World) {
			w.Events = slices.Insert(w.Events, firstIssued, api.Event{Kind: api.SeenE, At: issued, N: 1, Name: "b"})
		}},
		{"that name seen with another number anew", true, func(w *api.World) {
			w.Events = slices.Insert(w.Events, firstIssued, api.Event{Kind: api.SeenE, At: issued - 99, N: 7, Name: "a"})
		}},
		{"another name seen with that number behind the issue", true, func(w *api.World) {
			w.Events = slices.Insert(w.Events, firstIssued+1, api.Event{Kind: api.SeenE, At: issued, N: 1, Name: "b"})
		}},
		{"who saw it says nothing", true, func(w *api.World) { w.Events[firstSeen].Who, w.Events[firstSeen].M = "zoe", 99 }},
		{"seen 50 ahead of it", true, func(w *api.World) {
			w.Events[firstSeen].At = 9
			w.Events[firstIssued].At = 59
			w.Events[secondSeen].At = 9
		}},
		{"seen 51 ahead of it", false, func(w *api.World) {
			w.Events[firstSeen].At = 9
			w.Events[firstIssued].At = 60
			w.Events[secondSeen].At = 10
		}},
		{"the second one seen 51 ahead of it", false, func(w *api.World) {
			w.Events[firstSeen].At = 10
			w.Events[firstIssued].At = 60
			w.Events[secondSeen].At = 9
		}},
		{"seen later than it", true, func(w *api.World) { w.Events[firstSeen].At = issued + 999 }},
		{"seen later than it, round", true, func(w *api.World) { w.Events[firstIssued].At = math.MinInt + 20; seenAt(w, math.MaxInt-29) }},
		{"seen later than it, round", false, func(w *api.World) { w.Events[firstIssued].At = math.MinInt + 20; seenAt(w, math.MaxInt-30) }},
		{"seen ahead of it, round", true, func(w *api.World) {
			w.Events[firstIssued].At = math.MaxInt
			seenAt(w, -1)
			w.Events[annHas].At = -2
			w.Events[firstIssued].At = 49
		}},
		{"seen long ahead of it, round", true, func(w *api.World) {
			w.Events[annHas].At = math.MinInt
			seenAt(w, math.MinInt)
			w.Events[firstIssued].At = math.MaxInt
		}},
		{"seen long ahead of it", false, func(w *api.World) {
			w.Events[annHas].At = math.MinInt
			seenAt(w, 0)
			w.Events[firstIssued].At = math.MaxInt
		}},
		{"somebody else has it", false, func(w *api.World) { w.Events[annHas].Who = "zoe" }},
		{"somebody else has had it", true, func(w *api.World) { w.Events = move(w.Events, zoeHas, secondSeen) }},
		{"somebody else has it when it is seen", false, func(w *api.World) { w.Events = move(w.Events, zoeHas, firstOrdered) }},
		{"she has had it behind that alone", false, func(w *api.World) { w.Events = move(w.Events, annHas, secondSeen) }},
		{"she is told to have it later", false, func(w *api.World) { w.Events[annHas].At = 4 }},
		{"she is told to have it to the moment", true, func(w *api.World) { w.Events[annHas].At = 3 }},
		{"somebody else has one below it", false, func(w *api.World) {
			w.Events = slices.Insert(w.Events, firstSeen, api.Event{Kind: api.OwnedE, Who: "zoe", Name: "y.a"})
		}},
		{"somebody else has one below that", true, func(w *api.World) {
			w.Events = slices.Insert(w.Events, firstSeen, api.Event{Kind: api.OwnedE, Who: "zoe", Name: "q.y.a"})
		}},
		{"her account has another key", false, func(w *api.World) { w.Front.Accounts[1].Key = keyOf("zoe") }},
		{"her account has the key of nobody", false, func(w *api.World) { w.Front.Accounts[1].Key = keyOf("") }},
		{"another account", false, func(w *api.World) { w.Front.Orders[0].Account = 1 }},
		{"nobody has it, and the account has the key of nobody", true, func(w *api.World) {
			w.Events[annHas].Name, w.Events[zoeHas].Name = "b", "b"
			w.Front.Accounts[1].Key = keyOf("")
		}},
		{"the first one of the number", true, func(w *api.World) { w.Certs = append(w.Certs, api.Cert{Serial: 1, Names: []string{"b"}}) }},
		{"the first one of the number", false, func(w *api.World) { w.Certs = slices.Insert(w.Certs, 0, api.Cert{Serial: 1, Names: []string{"b"}}) }},
		{"the first issue of the number", true, func(w *api.World) { w.Events = append(w.Events, api.Event{Kind: api.IssuedE, N: 1, M: 9}) }},
		{"the first issue of the number", false, func(w *api.World) { w.Events = slices.Insert(w.Events, 0, api.Event{Kind: api.IssuedE, N: 1, M: 1}) }},
		{"the first order of the number", true, func(w *api.World) { w.Front.Orders = append(w.Front.Orders, api.Order{Id: 1, Account: 2}) }},
		{"the first order of the number", false, func(w *api.World) { w.Front.Orders = slices.Insert(w.Front.Orders, 0, api.Order{Id: 1, Account: 2}) }},
		{"the first account of the number", true, func(w *api.World) { w.Front.Accounts = append(w.Front.Accounts, api.Account{Id: 2}) }},
		{"the first account of the number", false, func(w *api.World) { w.Front.Accounts = slices.Insert(w.Front.Accounts, 0, api.Account{Id: 2}) }},
	} {
		y := but(w, x.change)
		e := last(w)
		if audit.Ordered(y, e) != x.want {
			t.Errorf("%s: Ordered is not %t", x.what, x.want)
		}
		if ordered(y, e) != x.want {
			t.Errorf("%s: by the chapter's words it is not %t", x.what, x.want)
		}
	}
}

func seenAt(w *api.World, at int) { w.Events[firstSeen].At, w.Events[secondSeen].At = at, at }

// TestOrderedByChance: events at any place, of few numbers and names.
func TestOrderedByChance(t *testing.T) {
	chance := rand.New(rand.NewSource(34))
	pool := []string{"a", "y.a", "b"}
	some := accepted(t)
	counts := map[bool]int{}
	for range 4000 {
		w := api.World{Certs: some.Certs, Policy: some.Policy}
		w.Front.Accounts = []api.Account{{Id: 1, Key: keyOf("bob")}, {Id: 2, Key: keyOf("ann")}}
		w.Front.Orders = []api.Order{{Id: 1, Account: 1 + chance.Intn(2), Auths: []int{1, 2}}, {Id: 2, Account: 2, Auths: []int{2}}}
		w.Front.Auths = []api.Auth{{Id: 1, Name: "a"}, {Id: 2, Name: "y.a"}}
		for k := range 8 {
			e := api.Event{Kind: 1 + chance.Intn(4), At: 8 * (k + chance.Intn(3) - 1), Who: []string{"ann", "bob"}[chance.Intn(2)], Name: pool[chance.Intn(5)/2], N: 1 + chance.Intn(2), M: 1 + chance.Intn(2)}
			if e.Kind == api.SeenE && chance.Intn(4) != 0 {
				e.Name = pool[e.N-1]
			}
			w.Events = append(w.Events, e)
		}
		for n := 1; n <= 2; n++ {
			e := api.Event{N: n}
			want := ordered(w, e)
			if counts[want]++; audit.Ordered(w, e) != want {
				t.Fatalf("Ordered of %v is not %t", w.Events, want)
			}
			if audit.Ruled(w, e) != ruled(w, e) {
				t.Fatalf("Ruled of %v is not %t", w.Events, ruled(w, e))
			}
		}
	}
	if counts[true] < 50 {
		t.Errorf("there were %v", counts)
	}
}

// P33.3

func TestRuled(t *testing.T) {
	w := accepted(t)
	for _, x := range []struct {
		what   string
		want   bool
		change func(w *api.World)
	}{
		{"a life that is allowed", true, func(w *api.World) { w.Certs[0].Until = w.Certs[0].From + 50 }},
		{"a life that is too long", false, func(w *api.World) { w.Certs[0].Until = w.Certs[0].From + 51 }},
		{"a life of 1", true, func(w *api.World) { w.Certs[0].Until = w.Certs[0].From + 1 }},
		{"no life", false, func(w *api.World) { w.Certs[0].Until = w.Certs[0].From }},
		{"a life that goes round", true, func(w *api.World) { w.Certs[0].From, w.Certs[0].Until = math.MaxInt-9, math.MinInt+9 }},
		{"a life that goes round", false, func(w *api.World) { w.Certs[0].From, w.Certs[0].Until = math.MaxInt-29, math.MinInt+29 }},
		{"a life below 0", false, func(w *api.World) { w.Certs[0].Until = w.Certs[0].From - 1 }},
		{"a name that is refused", false, func(w *api.World) { w.Certs[0].Names[1] = "q.x.a" }},
		{"a name of which nobody decides", false, func(w *api.World) { w.Certs[0].Names[1] = "c" }},
		{"another name that is allowed", true, func(w *api.World) { w.Certs[0].Names[1] = "x.a" }},
		{"no names", false, func(w *api.World) { w.Certs[0].Names = nil }},
		{"one name twice", false, func(w *api.World) { w.Certs[0].Names[1] = "a" }},
		{"an account that may not be", false, func(w *api.World) { w.Front.Orders[0].Account = -1; w.Front.Accounts[1].Id = -1 }},
		{"a key that is allowed", true, func(w *api.World) { w.Policy.Rules[0].KeyMin = 16 }},
		{"a key that is too small", false, func(w *api.World) { w.Policy.Rules[0].KeyMin = 17 }},
		{"the key of the order says nothing", true, func(w *api.World) { w.Policy.Rules[0].KeyMin = 16; w.Front.Orders[0].Key = 4 }},
		{"the names of the order say nothing", true, func(w *api.World) { w.Front.Orders[0].Names = []string{"c"} }},
		{"the life of the order says nothing", true, func(w *api.World) { w.Front.Orders[0].Life = 999 }},
		{"the nodes of the policy say nothing", true, func(w *api.World) { w.Policy.Nodes = nil }},
		{"no rules", false, func(w *api.World) { w.Policy.Rules = nil }},
		{"rules that may not be", false, func(w *api.World) { w.Policy.Rules[0].Name = "" }},
		{"rules that clash", false, func(w *api.World) { w.Policy.Rules[1].Pats[0] = "a" }},
	} {
		y := but(w, x.change)
		if e := last(w); audit.Ruled(y, e) != x.want || ruled(y, e) != x.want {
			t.Errorf("%s: Ruled is not %t", x.what, x.want)
		}
	}
}

func TestFresh(t *testing.T) {
	is := func(m int, want bool, l ...api.Event) {
		t.Helper()
		if audit.Fresh(api.World{Events: l}, api.Event{Kind: api.AcceptedE, N: 7, M: m}) != want {
			t.Errorf("Fresh with %v, as of %d, is not %t", l, m, want)
		}
	}
	gone := func(at, n int) api.Event { return api.Event{Kind: api.RevokedE, At: at, N: n} }
	is(5, true)
	for _, at := range []int{math.MinInt, -1, 0, 4} {
		is(5, false, gone(at, 7))
		is(5, false, gone(99, 7), gone(1, 8), gone(at, 7), gone(98, 7))
		is(5, true, gone(at, 8), gone(at, 6), gone(at, -7))
		for kind := range 9 {
			if kind != api.RevokedE {
				is(5, true, api.Event{Kind: kind, At: at, N: 7, M: 7})
			}
		}
	}
	for _, at := range []int{5, 6, math.MaxInt} {
		is(5, true, gone(at, 7))
	}
	is(math.MinInt, true, gone(math.MinInt, 7))
	is(math.MaxInt, false, gone(math.MaxInt-1, 7))
	is(0, true, gone(0, 7))
}

// P33.4

func head(log, size int, root uint64) api.Head {
	return api.Head{Log: log, Size: size, Root: api.Sum{root, 5}}
}

// TestSharedAsItIs: in a world that may not be nobody talks.
func TestSharedAsItIs(t *testing.T) {
	is := func(what string, want bool, reports []api.Report, pools ...[]api.Head) {
		t.Helper()
		w := api.World{Now: -1, Reports: reports}
		for _, l := range pools {
			w.Clients = append(w.Clients, api.Client{Pool: api.Pool{L: l}})
		}
		for _, e := range []api.Event{{}, {Kind: api.AcceptedE, N: 1}} {
			if audit.Shared(w, e) != want {
				t.Errorf("%s: Shared is not %t", what, want)
			}
		}
	}
	fork := func(log int) api.Report { return api.Report{Kind: api.ForkR, Party: log} }
	is("nobody", true, nil)
	is("nothing", true, nil, nil, nil)
	for log := range 2 {
		one, other, later := head(log, 3, 1), head(log, 3, 2), head(log, 3, 1)
		later.At = 7
		is("one head", true, nil, []api.Head{one})
		is("one head twice", true, nil, []api.Head{one, later}, []api.Head{later, one})
		is("unlike roots of one client", false, nil, []api.Head{one, other})
		is("unlike roots of two clients", false, nil, []api.Head{one}, nil, []api.Head{other})
		is("unlike roots in the middle", false, nil, []api.Head{head(log, 2, 9), one}, []api.Head{later, head(log, 4, 9), other}, []api.Head{later})
		second := one
		second.Root[1]++
		is("roots that are unlike in the second number", false, nil, []api.Head{one}, []api.Head{second})
		is("unlike sizes", true, nil, []api.Head{one, head(log, 4, 2)}, []api.Head{head(log, 2, 3)})
		is("unlike logs", true, nil, []api.Head{one, head(1-log, 3, 2), head(7, 3, 3)})
		is("a report", true, []api.Report{{}, fork(log)}, []api.Head{one, other})
		is("a report of the other log", false, []api.Report{fork(1 - log), fork(7)}, []api.Head{one, other})
		for _, kind := range []int{api.BrokeR, api.RogueR, 0} {
			is("a report of another kind", false, []api.Report{{Kind: kind, Party: log}}, []api.Head{one, other})
		}
		is("both logs, and one report", false, []api.Report{fork(log)}, []api.Head{one, other, head(1-log, 5, 1)}, []api.Head{head(1-log, 5, 2)})
		is("both logs, and two reports", true, []api.Report{fork(0), fork(1)}, []api.Head{one, other, head(1-log, 5, 1)}, []api.Head{head(1-log, 5, 2)})
	}
	is("another log", true, nil, []api.Head{head(2, 3, 1), head(2, 3, 2), head(-1, 3, 1), head(-1, 3, 2)})
}

// forked is a world in which clients hold unlike heads of one size, of those logs, and nobody has said so.
func forked(t *testing.T, l ...int) api.World {
	t.Helper()
	w := accepted(t)
	for at := range w.Clients {
		w.Clients[at].Pool = api.Pool{}
	}
	for _, n := range l {
		w = does(t, w, do(api.SplitDo, "", n), do(api.FetchDo, "ann", n), do(api.FetchDo, "bob", n))
	}
	if len(w.Reports) != 0 {
		t.Fatal(w.Reports)
	}
	return w
}

func TestSharedOfThoseWhoTalk(t *testing.T) {
	is := func(what string, w api.World, want bool) {
		t.Helper()
		was := copied(w)
		if audit.Shared(w, last(w)) != want {
			t.Errorf("%s: Shared is not %t", what, want)
		}
		if !reflect.DeepEqual(copied(w), was) {
			t.Errorf("%s: the world is changed", what)
		}
	}
	is("one view", accepted(t), true)
	is("two views, which are told", forked(t, 0), true)
	is("two views, which are told", forked(t, 1), true)
	// Who talks tells of one fork alone: of the first one.
	is("both logs", forked(t, 0, 1), false)
	// Of one alone nobody talks.
	alone := but(forked(t, 0), func(w *api.World) {
		w.Clients[0].Pool.L = append(w.Clients[0].Pool.L, w.Clients[1].Pool.L...)
		slices.SortFunc(w.Clients[0].Pool.L, func(a, b api.Head) int { return slices.Compare(a.Root[:], b.Root[:]) })
		w.Clients = w.Clients[:1]
	})
	if e := world.Check(alone); e != api.OK {
		t.Fatal(e)
	}
	is("one that holds two views, and tells nobody", alone, false)
	// What is two clients' apart from each other is told on by the third one, or by one that is asked of sizes that it had not.
	far := forked(t, 0)
	far.Clients[1].Pool, far.Clients[2].Pool = api.Pool{}, far.Clients[1].Pool
	far.Clients[2].View = 1
	is("told by the last one", far, true)
	if w := talkOnce(far, 1); len(w.Reports) == 0 {
		t.Errorf("nobody tells")
	}
}

// talkOnce lets each two talk, so often.
func talkOnce(w api.World, rounds int) api.World {
	for range rounds {
		for k, a := range w.Clients {
			for _, b := range w.Clients[k+1:] {
				w, _ = world.Do(w, api.Do{Kind: api.TalkDo, Who: a.Who, Name: b.Who})
			}
		}
	}
	return w
}

// shared is whether views are, as the chapter says.
func shared(w api.World) bool {
	w = talkOnce(w, 2)
	for log := range 2 {
		var all []api.Head
		for _, c := range w.Clients {
			all = append(all, c.Pool.L...)
		}
		unlike := false
		for _, a := range all {
			for _, b := range all {
				unlike = unlike || a.Log == log && b.Log == log && a.Size == b.Size && a.Root != b.Root
			}
		}
		if unlike && !slices.ContainsFunc(w.Reports, func(r api.Report) bool { return r.Kind == api.ForkR && r.Party == log }) {
			return false
		}
	}
	return true
}

// TestSharedInTwoRounds: what is known to the last one alone is known to all by the second round.
func TestSharedInTwoRounds(t *testing.T) {
	w := begin(t, "ann", "bob", "cid", "dan")
	w = does(t, w, own("ann", "a"), do(api.JoinDo, "ann", 0), orders("ann", 50, "a"), do(api.TokenDo, "ann", 1), do(api.LookDo, "ann", 1))
	for n := range 3 {
		w = does(t, w, do(api.IssueDo, "ann", n+1), orders("ann", 50, "a"), do(api.MergeDo, "", 0))
	}
	w = does(t, w, do(api.SplitDo, "", 0), do(api.MergeDo, "", 1), do(api.SplitDo, "", 1))
	for bits := 0; bits < 256; bits += 5 {
		x := w
		for k, who := range []string{"ann", "bob", "cid", "dan", "ann", "bob", "cid", "dan"} {
			if bits>>k&1 == 1 {
				x, _ = world.Do(x, do(api.FetchDo, who, k/4))
			}
		}
		// Later, so that what is asked for is another head.
		x, _ = world.Do(x, do(api.TickDo, "", bits%2))
		if audit.Shared(x, api.Event{}) != shared(x) {
			t.Errorf("Shared with the heads of %b is not %t", bits, shared(x))
		}
	}
}

// P33.5

// reported is a world with reports of each kind that prove something: of the signer 1, and of the log 0.
func reported(t *testing.T) (w api.World, rogue, fork, broke api.Report) {
	t.Helper()
	w = does(t, accepted(t), do(api.BadDo, "", 1), api.Do{Kind: api.RogueDo, Names: []string{"q"}, Key: 4})
	rogue = w.Reports[0]
	l := w.Logs[0]
	one, _ := logd.Head(l, 0, 2, 40)
	l, _ = logd.Hide(l)
	other, _ := logd.Head(l, 1, 2, 40)
	leaves, _ := logd.Leaves(l, 1)
	fork, broke = report.Fork(one, other), report.Broke(w.Certs[1].Proms[0], other, leaves)
	for _, r := range []api.Report{rogue, fork, broke} {
		if e := report.Check(r, world.Keys(w), w.Crew, w.Policy); e != api.OK {
			t.Fatal(r.Kind, e)
		}
	}
	w.Reports = nil
	w.Events = w.Events[:len(w.Events)-1]
	return w, rogue, fork, broke
}

func TestProvenAndJust(t *testing.T) {
	w, rogue, fork, broke := reported(t)
	is := func(what string, wantProven, wantJust bool, events []api.Event, reports ...api.Report) {
		t.Helper()
		x := but(w, func(w *api.World) { w.Events, w.Reports = append(w.Events, events...), reports })
		if audit.Proven(x) != wantProven || audit.Just(x) != wantJust {
			t.Errorf("%s: Proven is not %t, or Just not %t", what, wantProven, wantJust)
		}
	}
	was := func(kind, n int) []api.Event { return []api.Event{{Kind: kind, N: n}} }
	nothing := api.Report{}
	wrong := rogue
	wrong.Part.X++
	other := fork
	other.Heads = []api.Head{fork.Heads[0], fork.Heads[0]}
	is("no reports", false, true, nil)
	is("reports that prove nothing", false, true, nil, nothing, wrong, other)
	is("a rogue, who is bad", true, true, was(api.BadE, 1), rogue)
	is("a rogue, who is not bad", true, false, nil, rogue)
	is("a rogue, who is another one", true, false, was(api.BadE, 2), rogue)
	for _, kind := range []int{api.SplitE, api.SeenE, api.IssuedE, 0} {
		is("a rogue, of whom something else was told", true, false, was(kind, 1), rogue)
	}
	for k, r := range []api.Report{fork, broke} {
		is("a log, that is split, "+strconv.Itoa(k), true, true, was(api.SplitE, 0), r)
		is("a log, that is not split", true, false, nil, r)
		is("a log, which is another one", true, false, was(api.SplitE, 1), r)
		for _, kind := range []int{api.BadE, api.SeenE, api.IssuedE, 0} {
			is("a log, of which something else was told", true, false, was(kind, 0), r)
		}
	}
	all := append(was(api.BadE, 1), was(api.SplitE, 0)...)
	is("all of them", true, true, all, nothing, rogue, wrong, fork, broke, other)
	is("all of them, the rogue not told", true, false, all[1:], nothing, fork, broke, rogue)
	is("all of them, the log not told", true, false, all[:1], rogue, fork, nothing)
	is("the last one alone proves something", true, true, all, wrong, other, broke)
	// By whose keys, crew and policy they are looked at: the world's.
	for k, change := range []func(w *api.World){func(w *api.World) { w.Logs[0].Key++ }, func(w *api.World) { w.Logs = nil }} {
		x := but(w, func(w *api.World) { change(w); w.Reports = []api.Report{fork, broke} })
		if audit.Proven(x) || !audit.Just(x) {
			t.Errorf("%d: by other keys something is proved", k)
		}
	}
	for k, change := range []func(w *api.World){func(w *api.World) { w.Policy = api.Table{} }, func(w *api.World) { w.Crew, _, _ = quorum.Deal([]byte("other"), 2, 3) }} {
		x := but(w, func(w *api.World) { change(w); w.Reports = []api.Report{rogue} })
		if audit.Proven(x) || !audit.Just(x) {
			t.Errorf("%d: by another crew, or policy, something is proved", k)
		}
	}
}

// P33.6

func judged(t *testing.T, what string, w api.World, want api.Errno) {
	t.Helper()
	was := copied(w)
	if e := audit.Judge(w); e != want {
		t.Errorf("%s: Judge is %d, not %d", what, e, want)
	}
	if !reflect.DeepEqual(copied(w), was) {
		t.Errorf("%s: the world is changed", what)
	}
}

func TestJudge(t *testing.T) {
	w := accepted(t)
	_, rogue, fork, broke := reported(t)
	judged(t, "nothing", api.World{}, api.ErrArg)
	judged(t, "a new one", begin(t, "ann"), api.OK)
	unfair := func(w *api.World) { w.Events = append(w.Events, api.Event{Kind: api.SeenE, M: 2}) }
	mayNot := func(w *api.World) { w.Session = -1 }
	for _, x := range []struct {
		what   string
		change func(w *api.World)
	}{
		{"not just: a rogue", func(w *api.World) { w.Reports = []api.Report{rogue} }},
		{"not just: a fork", func(w *api.World) { w.Reports = []api.Report{{}, fork} }},
		{"not just: a broken promise", func(w *api.World) { w.Reports = []api.Report{broke} }},
		{"not ordered", func(w *api.World) { w.Events[annHas].Who = "zoe" }},
		{"not ruled", func(w *api.World) { w.Certs[0].Until += 999 }},
		{"not there", func(w *api.World) { w.Certs = nil }},
		{"the first one not there", func(w *api.World) { w.Events[ofKind(*w, api.AcceptedE)-1].N = 9 }},
		{"the last one not there", func(w *api.World) { w.Events[ofKind(*w, api.AcceptedE)].N = 9 }},
		{"not fresh: the first one, which has a cascade", func(w *api.World) {
			w.Events = append(w.Events, api.Event{Kind: api.RevokedE, N: 1, At: 29})
		}},
		{"not shared", func(w *api.World) {
			f := forked(t, 0)
			w.Clients = f.Clients[:1]
			w.Clients[0].Pool.L = append(w.Clients[0].Pool.L, f.Clients[1].Pool.L...)
			slices.SortFunc(w.Clients[0].Pool.L, func(a, b api.Head) int { return slices.Compare(a.Root[:], b.Root[:]) })
		}},
	} {
		y := but(w, x.change)
		judged(t, x.what, y, api.ErrFault)
		judged(t, x.what+", but not fair", but(y, unfair), api.OK)
		judged(t, x.what+", in a world that may not be", but(y, mayNot), api.ErrArg)
		judged(t, x.what+", in a world that may not be, nor is fair", but(but(y, unfair), mayNot), api.ErrArg)
		if x.what[:8] != "not just" {
			judged(t, x.what+", but nothing was accepted", but(y, func(w *api.World) {
				w.Events = slices.DeleteFunc(w.Events, func(e api.Event) bool { return e.Kind == api.AcceptedE })
			}), api.OK)
		}
	}
	judged(t, "revoked behind the day", but(w, func(w *api.World) {
		w.Events = append(w.Events, api.Event{Kind: api.RevokedE, N: 1, At: 30})
	}), api.OK)
	judged(t, "another one revoked", but(w, func(w *api.World) {
		w.Events = append(w.Events, api.Event{Kind: api.RevokedE, N: 2, At: 1})
	}), api.OK)
	judged(t, "reports of those that misbehaved", but(w, func(w *api.World) {
		w.Events = append(w.Events, api.Event{Kind: api.BadE, N: 1}, api.Event{Kind: api.SplitE, N: 0})
		w.Reports = []api.Report{rogue, fork, broke}
	}), api.OK)
	judged(t, "reports that prove nothing", but(w, func(w *api.World) { w.Reports = make([]api.Report, 3) }), api.OK)
	judged(t, "two views, which are told", forked(t, 0), api.OK)
	judged(t, "two views of both logs", forked(t, 0, 1), api.OK)
}

// TestWhatNobodyOrdered: a certificate that rogues would have signed, had they been enough, and had logs promised it.
func TestWhatNobodyOrdered(t *testing.T) {
	w := accepted(t)
	pre, _ := cert.Pre(w.Certs[0])
	if len(pre) == 0 || !cyclic.In(16) {
		t.Fatal("the certificate has no pre")
	}
	forged := but(w, func(w *api.World) {
		c := w.Certs[0]
		c.Serial, c.Names = 3, []string{"b"}
		w.Certs = append(w.Certs, c)
		w.Events = append(w.Events, api.Event{Kind: api.AcceptedE, N: 3, Name: "b"})
	})
	judged(t, "nobody has ordered it", forged, api.ErrFault)
	judged(t, "as many are bad as are needed", but(forged, func(w *api.World) {
		w.Events = append(w.Events, api.Event{Kind: api.BadE, N: 1}, api.Event{Kind: api.BadE, N: 2})
	}), api.OK)
}
