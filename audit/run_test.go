package audit_test

import (
	"math/rand"
	"slices"
	"strconv"
	"testing"

	"greatseal/api"
	"greatseal/audit"
	"greatseal/rule"
	"greatseal/world"
	"greatseal/zone"
)

// P33.7

// chance tells doings by chance: most of them go on with what there is.
type chance struct {
	*rand.Rand
}

func (c chance) of(l ...string) string { return l[c.Intn(len(l))] }

func (c chance) who() string { return c.of("ann", "bob", "cid") }

func (c chance) name() string { return c.of("a", "x.a", "y.x.a", "b", "q.b", "_seal.a") }

// whose is the owner of an account.
func whose(w api.World, account int) string {
	for _, who := range []string{"ann", "bob", "cid"} {
		if w.Front.Accounts[account-1].Key == keyOf(who) {
			return who
		}
	}
	return ""
}

// onward is what brings an order nearer to a certificate: its token, a look at it, its issue.
func (c chance) onward(w api.World) api.Do {
	l := w.Front.Orders
	if len(l) == 0 || c.Intn(4) == 0 {
		all := []string{c.name(), c.name()}[:1+c.Intn(2)]
		who := c.who()
		if o := owner(w.Events, all[0], w.Now); o != "" && c.Intn(4) != 0 {
			who = o
		}
		return orders(who, 5+c.Intn(60), all...)
	}
	o := l[max(0, len(l)-1-c.Intn(4))]
	for _, id := range o.Auths {
		a := w.Front.Auths[id-1]
		zones := w.Net.Servers[1].Zones
		at, _ := zone.Best(zones, a.Name)
		told := len(zones) > 0 && slices.ContainsFunc(zones[at].Recs, func(r api.Rec) bool { return r.Value == a.Token })
		switch {
		case a.State == api.Valid && a.Until > w.Now:
		case told || c.Intn(5) == 0:
			return do(api.LookDo, whose(w, a.Account), id)
		default:
			return do(api.TokenDo, whose(w, a.Account), id)
		}
	}
	return do(api.IssueDo, whose(w, o.Account), o.Id)
}

func (c chance) client(w api.World) api.Do {
	who, n := w.Clients[c.Intn(len(w.Clients))].Who, c.Intn(2)
	switch c.Intn(13) {
	case 0, 1, 6:
		return do(api.FetchDo, who, n)
	case 7, 8:
		return do(api.MergeDo, "", n)
	case 2:
		return do(api.DayDo, who, 0)
	case 3:
		return api.Do{Kind: api.TalkDo, Who: who, Name: w.Clients[c.Intn(len(w.Clients))].Who}
	case 4:
		return do(api.WatchDo, "", n)
	case 5:
		return do(api.TickDo, "", c.Intn(7))
	}
	if many := len(w.Certs); many > 0 {
		site := w.Certs[max(0, many-1-c.Intn(4))]
		return visit(who, site.Names[c.Intn(len(site.Names))], site.Serial)
	}
	return do(api.MergeDo, "", n)
}

// adversary is what somebody does who is up to no good.
func (c chance) adversary(w api.World, faults int) api.Do {
	auth := api.Auth{Id: 1, Name: "a", Token: "1-1"}
	if many := len(w.Front.Auths); many > 0 {
		auth = w.Front.Auths[c.Intn(many)]
	}
	switch c.Intn(12) {
	case 0, 1:
		return api.Do{Kind: api.BendDo, N: c.Intn(2), Bend: api.Bend{Seen: c.Intn(faults), From: c.Intn(2), To: 7}}
	case 2, 3:
		return api.Do{Kind: api.FakeDo, Rec: api.Rec{Name: "_seal." + auth.Name, Kind: api.TextK, Value: auth.Token, Life: 1 + c.Intn(20)}}
	case 4:
		return do(api.LookDo, whose(w, max(1, auth.Account)), auth.Id)
	case 5:
		return do(api.BadDo, "", 1+c.Intn(faults))
	case 6:
		return do(api.SplitDo, "", c.Intn(faults))
	case 7:
		return api.Do{Kind: api.RogueDo, Names: []string{c.name()}, Key: 16}
	case 8:
		return api.Do{Kind: api.CrashDo, N: 1 + c.Intn(3), Key: c.Uint64()}
	case 9:
		return own(c.who(), c.name())
	case 10:
		return do(api.RevokeDo, c.who(), 1+c.Intn(len(w.Certs)+1))
	}
	return do(api.BackDo, "", 1+c.Intn(3))
}

func (c chance) next(w api.World, faults int) api.Do {
	switch c.Intn(9) {
	case 0, 1, 2, 3:
		return c.onward(w)
	case 4, 5, 6:
		return c.client(w)
	case 7:
		return c.adversary(w, faults)
	}
	return api.Do{Kind: 1 + c.Intn(23), Who: c.who(), Name: c.name(), Names: []string{c.name()}, Rec: api.Rec{Name: c.name(), Kind: 1 + c.Intn(5), Value: c.of("7", "greatseal", "a"), Life: 1 + c.Intn(20)}, Key: 16, N: c.Intn(6)}
}

// TestLongRuns: of a world that is begun, whatever is done in it, Judge tells OK.
func TestLongRuns(t *testing.T) {
	var fair, taken, proven, unshared int
	for seed := range 12 {
		c := chance{rand.New(rand.NewSource(int64(seed)))}
		rules, _, _ := rule.Parse([]byte("allow w { *.a, a, *.b, b; life 50; most 9 per 30; } refuse no { q.b; }"))
		w, e := world.New([]byte(strconv.Itoa(seed)), 2, 3, 3, 2, rules, []string{"ann", "bob", "cid", "dan"})
		if e != api.OK {
			t.Fatal(e)
		}
		w = does(t, w, own("ann", "a"), own("bob", "b"), own("cid", "x.a"), do(api.JoinDo, "ann", 0), do(api.JoinDo, "bob", 0), do(api.JoinDo, "cid", 0))
		// With one it stays fair, but for how many are redirected; with two it does not.
		faults := 1 + seed%6/5
		for step := range 240 {
			d := c.next(w, faults)
			w, _ = world.Do(w, d)
			if step%24 != 23 {
				continue
			}
			if e := audit.Judge(w); e != api.OK {
				t.Fatalf("in the run %d, behind %v, Judge is %d: %v", seed, d, e, w.Events)
			}
		}
		for _, e := range w.Events {
			if e.Kind == api.AcceptedE {
				taken++
				if audit.Fair(w) && !(audit.Ordered(w, e) && audit.Ruled(w, e) && audit.Fresh(w, e) && audit.Shared(w, e)) {
					t.Errorf("in the run %d %v is not as it must be", seed, e)
				}
			}
		}
		if audit.Fair(w) {
			fair++
		}
		if audit.Proven(w) {
			proven++
		}
		if !audit.Just(w) {
			t.Errorf("in the run %d somebody honest is reported", seed)
		}
		if len(w.Reports) > 0 && !audit.Proven(w) {
			unshared++
		}
	}
	if fair < 6 || taken < 24 || proven < 6 || unshared != 0 {
		t.Errorf("of the runs %d were fair, %d were accepted, %d had reports", fair, taken, proven)
	}
}
