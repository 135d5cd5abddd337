package world_test

import (
	"math/rand"
	"slices"
	"strconv"
	"testing"

	"greatseal/api"
	"greatseal/world"
)

// P32.4, and all kinds one behind the other

// chance tells doings by chance: many of them go on with what there is.
type chance struct {
	*rand.Rand
}

func (c chance) of(l ...string) string { return l[c.Intn(len(l))] }

func (c chance) who() string { return c.of("ann", "bob", "cid", "dan", "ann", "bob") }

func (c chance) name() string {
	return c.of("a", "a", "b", "x.a", "y.x.a", "q.b", "_seal.a", "c", "a", "b", "z..a")
}

// number is one from 1 on, mostly one that there is.
func (c chance) number(many int) int {
	if c.Intn(12) == 0 {
		return c.Intn(5) - 2
	}
	return max(1, many-c.Intn(3))
}

func (c chance) rec(w api.World) api.Rec {
	name := c.name()
	if c.Intn(4) == 0 {
		name = "_seal." + name
	}
	r := api.Rec{Name: name, Kind: 1 + c.Intn(5), Value: c.of("t", "greatseal", "7", "a", "1-1", "2-1", "b"), Life: 1 + c.Intn(30)}
	if l := w.Front.Auths; len(l) > 0 && c.Intn(3) == 0 {
		a := l[c.Intn(len(l))]
		return api.Rec{Name: "_seal." + a.Name, Kind: api.TextK, Value: a.Token, Life: 5}
	}
	return r
}

// doing is one of a kind.
func (c chance) doing(w api.World, kind int) api.Do {
	d := api.Do{Kind: kind, Who: c.who(), Name: c.name(), N: c.number(3)}
	switch kind {
	case api.PutDo, api.DropDo, api.FakeDo:
		d.Rec = c.rec(w)
		if l := serverOf(&w, 1).Zones; kind == api.DropDo && len(l) > 0 {
			if z := l[c.Intn(len(l))]; len(z.Recs) > 0 {
				d.Rec, d.Who = z.Recs[c.Intn(len(z.Recs))], c.of("ann", "bob")
			}
		}
	case api.BendDo:
		d.Bend, d.N = api.Bend{Seen: c.Intn(4), From: c.Intn(2), To: []int{7, 7, 1, 3}[c.Intn(4)]}, c.Intn(5)/2
	case api.OrderDo, api.RogueDo:
		d.Names, d.Key, d.N = []string{c.name(), c.name()}[:1+c.Intn(2)], []uint64{16, 4, 2}[c.Intn(8)/3%3], 5+c.Intn(50)
	case api.TokenDo, api.LookDo:
		d.N = c.number(len(w.Front.Auths))
	case api.IssueDo:
		d.N = c.number(len(w.Front.Orders))
	case api.RevokeDo, api.VisitDo:
		d.N = c.number(len(w.Certs))
		if n := d.N; n >= 1 && n <= len(w.Certs) {
			d.Name = w.Certs[n-1].Names[0]
		}
	case api.CrashDo:
		d.Key = c.Uint64()
	case api.SplitDo, api.MergeDo, api.FetchDo, api.WatchDo:
		d.N = c.Intn(9)/4 - c.Intn(20)/19
	case api.TickDo:
		d.N = c.Intn(8) - c.Intn(20)/19
	case api.TalkDo:
		d.Name = c.who()
	}
	return d
}

// whose is who may do something of a number.
func whose(w api.World, d api.Do) string {
	account := 0
	switch l := w.Front; d.Kind {
	case api.TokenDo, api.LookDo:
		if d.N >= 1 && d.N <= len(l.Auths) {
			account = l.Auths[d.N-1].Account
		}
	case api.IssueDo:
		if d.N >= 1 && d.N <= len(l.Orders) {
			account = l.Orders[d.N-1].Account
		}
	case api.RevokeDo:
		for _, o := range l.Orders {
			if o.Serial == d.N {
				account = o.Account
			}
		}
	}
	for _, who := range []string{"ann", "bob", "cid", "dan"} {
		if account >= 1 && w.Front.Accounts[account-1].Key == keyOf(who) {
			return who
		}
	}
	return d.Who
}

// towards is a doing by which an order comes nearer to a certificate, and that to who is shown it.
func (c chance) towards(w api.World) (api.Do, bool) {
	front := w.Front
	if n := c.Intn(len(front.Orders) + 1); n > 0 {
		o := front.Orders[n-1]
		for _, id := range o.Auths {
			a := front.Auths[id-1]
			who := whose(w, token("", id))
			switch z, _ := zoneFor(&w, a.Name); {
			case a.State == api.Valid && a.Until > w.Now:
			case !hasName(&w, who, a.Name):
				return api.Do{}, false
			case !slices.ContainsFunc(z.Recs, func(r api.Rec) bool { return r.Value == a.Token }):
				return token(who, id), true
			default:
				return look(who, id), true
			}
		}
		return issues(whose(w, issues("", n)), n), o.State == api.Pending
	}
	if n := c.Intn(len(w.Certs) + 1); n > 0 {
		for _, d := range []api.Do{tick(20), fetch(c.of("ann", "bob"), c.Intn(2)), visit(c.of("ann", "bob"), w.Certs[n-1].Names[0], n)} {
			if c.Intn(2) == 0 {
				return d, true
			}
		}
	}
	l := slices.DeleteFunc(slices.Clone(w.Events), func(e api.Event) bool { return e.Kind != api.OwnedE })
	e := l[c.Intn(len(l))]
	return orders(e.Who, 5+c.Intn(50), e.Name, "x."+e.Name), true
}

func (c chance) next(w api.World) api.Do {
	if c.Intn(3) == 0 {
		if d, is := c.towards(w); is {
			return d
		}
	}
	kinds := []int{api.OwnDo, api.PutDo, api.PutDo, api.DropDo, api.BendDo, api.FakeDo, api.JoinDo, api.OrderDo, api.OrderDo, api.OrderDo, api.TokenDo, api.TokenDo, api.TokenDo, api.TokenDo, api.LookDo, api.LookDo, api.LookDo, api.LookDo, api.IssueDo, api.IssueDo, api.IssueDo, api.IssueDo, api.RevokeDo, api.BadDo, api.CrashDo, api.BackDo, api.BackDo, api.SplitDo, api.MergeDo, api.TickDo, api.TickDo, api.TickDo, api.FetchDo, api.FetchDo, api.FetchDo, api.DayDo, api.VisitDo, api.VisitDo, api.VisitDo, api.TalkDo, api.WatchDo, api.RogueDo}
	d := c.doing(w, kinds[c.Intn(len(kinds))])
	if c.Intn(10) != 0 {
		d.Who = whose(w, d)
	}
	if d.Kind == api.OwnDo && len(w.Events) > 20 && c.Intn(4) != 0 {
		d.Kind = api.TickDo
		d.N = c.Intn(3)
	}
	if (d.Kind == api.BadDo || d.Kind == api.SplitDo || d.Kind == api.BendDo) && c.Intn(3) != 0 {
		d.Kind, d.N = api.TickDo, 1
	}
	return d
}

// TestLongRuns: a world that may be stays one, each doing does what the chapter says, and events are never taken back.
func TestLongRuns(t *testing.T) {
	done := map[int]map[api.Errno]int{}
	for seed := range 14 {
		c := chance{rand.New(rand.NewSource(int64(seed)))}
		size := c.Intn(4)
		w, e := world.New([]byte(strconv.Itoa(seed)), []int{2, 1, 2, 3}[size], []int{3, 1, 2, 5}[size], 3, 2, rulesOf("allow w { *.a, a, *.b, b, c; life 60; most 9 per 30; } refuse no { y.x.a; }"), []string{"ann", "bob", "cid", "greatseal"})
		if e != api.OK {
			t.Fatal(e)
		}
		w = doesAll(t, w, own("ann", "a"), own("bob", "b"), join("ann"), join("bob"))
		for range 220 {
			d := c.next(w)
			x, told := world.Do(w, d)
			y := does(t, "by chance", w, d, told.E, told.N)
			if t.Failed() {
				t.Fatalf("in the run %d", seed)
			}
			goesOn(t, w, y, d)
			if done[d.Kind] == nil {
				done[d.Kind] = map[api.Errno]int{}
			}
			done[d.Kind][told.E]++
			w = x
		}
	}
	for kind := api.OwnDo; kind <= api.RogueDo; kind++ {
		if done[kind][api.OK] < 3 {
			t.Errorf("of the kind %d there was: %v", kind, done[kind])
		}
	}
}

// goesOn holds what follows against what was done.
func goesOn(t *testing.T, w, x api.World, d api.Do) {
	t.Helper()
	if e := world.Check(x); e != api.OK {
		t.Errorf("behind %v the world may not be: %d", d, e)
	}
	many := len(w.Events)
	if len(x.Events) < many || !slices.Equal(x.Events[:many], w.Events) {
		t.Errorf("%v takes events back", d)
	}
	if len(x.Reports) < len(w.Reports) || !same(x.Reports[:len(w.Reports)], w.Reports) {
		t.Errorf("%v takes reports back", d)
	}
	left := x
	switch d.Kind {
	case api.VisitDo:
		left.Events = w.Events
	case api.WatchDo:
		left.Reports = w.Reports
	case api.TickDo:
		left.Now, left.Logs = w.Now, w.Logs
		for k, l := range x.Logs {
			if !same(slices.Concat(l.L, l.Wait), slices.Concat(w.Logs[k].L, w.Logs[k].Wait)) {
				t.Errorf("a tick takes leaves back")
			}
		}
	default:
		return
	}
	if !same(left, w) {
		t.Errorf("%v changes what others have", d)
	}
}
