package world_test

import (
	"reflect"
	"slices"

	"greatseal/api"
	"greatseal/budget"
	"greatseal/cert"
	"greatseal/client"
	"greatseal/cyclic"
	"greatseal/gossip"
	"greatseal/hash"
	"greatseal/issue"
	"greatseal/logd"
	"greatseal/monitor"
	"greatseal/names"
	"greatseal/order"
	"greatseal/policy"
	"greatseal/quorum"
	"greatseal/report"
	"greatseal/resolve"
	"greatseal/revoke"
	"greatseal/route"
	"greatseal/sign"
	"greatseal/signer"
	"greatseal/vantage"
	"greatseal/zone"
)

// What each doing does, word by word what the chapter says.

// copied is a value that shares nothing with another one.
func copied[T any](x T) T { return deep(reflect.ValueOf(x)).Interface().(T) }

func deep(v reflect.Value) reflect.Value {
	x := reflect.New(v.Type()).Elem()
	switch v.Kind() {
	case reflect.Slice:
		for k := range v.Len() {
			x = reflect.Append(x, deep(v.Index(k)))
		}
	case reflect.Struct:
		for k := range v.NumField() {
			x.Field(k).Set(deep(v.Field(k)))
		}
	default:
		x.Set(v)
	}
	return x
}

// same tells whether all is the same: a list without elements is nil or empty.
func same[T any](a, b T) bool { return alike(reflect.ValueOf(a), reflect.ValueOf(b)) }

func alike(a, b reflect.Value) bool {
	switch a.Kind() {
	case reflect.Slice:
		if a.Len() != b.Len() {
			return false
		}
		for k := range a.Len() {
			if !alike(a.Index(k), b.Index(k)) {
				return false
			}
		}
		return true
	case reflect.Struct:
		for k := range a.NumField() {
			if !alike(a.Field(k), b.Field(k)) {
				return false
			}
		}
		return true
	}
	return a.Interface() == b.Interface()
}

func text(s string) bool {
	for k := range len(s) {
		if s[k] < 33 || s[k] > 126 {
			return false
		}
	}
	return len(s) >= 1 && len(s) <= 64
}

func secretOf(who string) uint64 {
	return sign.Secret(hash.Bytes(hash.Tagged("account", []byte(who))))
}

func keyOf(who string) uint64 {
	key, _ := sign.Public(secretOf(who))
	return key
}

func event(w *api.World, e api.Event) {
	e.At = w.Now
	w.Events = append(w.Events, e)
}

func reports(w *api.World, r api.Report) {
	for _, other := range w.Reports {
		if report.Same(other, r) {
			return
		}
	}
	w.Reports = append(w.Reports, r)
}

func serverOf(w *api.World, addr int) api.Server {
	for _, s := range w.Net.Servers {
		if s.Addr == addr {
			return s
		}
	}
	return api.Server{}
}

func zoneWith(w *api.World, addr int, apex string) (api.Zone, bool) {
	for _, z := range serverOf(w, addr).Zones {
		if z.Apex == apex {
			return z, true
		}
	}
	return api.Zone{}, false
}

func zoneFor(w *api.World, name string) (api.Zone, bool) {
	zones := serverOf(w, 1).Zones
	at, found := zone.Best(zones, name)
	if !found {
		return api.Zone{}, false
	}
	return zones[at], true
}

func hasName(w *api.World, who, name string) bool {
	z, found := zoneFor(w, name)
	if !found {
		return false
	}
	owner, owned := "", false
	for _, e := range w.Events {
		if e.Kind == api.OwnedE && e.Name == z.Apex {
			owner, owned = e.Who, true
		}
	}
	return owned && owner == who
}

// putIn puts a record in a zone of a server.
func putIn(w *api.World, addr int, z api.Zone, r api.Rec) api.Errno {
	z, e := zone.Put(z, r)
	if e != api.OK {
		return e
	}
	w.Net, e = route.Put(w.Net, addr, z)
	return e
}

func asks(w *api.World, who string, q api.Query) (int, api.Errno) {
	if q.Kind != api.AccountQ {
		found := false
		for _, a := range w.Front.Accounts {
			if a.Key == keyOf(who) && !found {
				q.Account, found = a.Id, true
			}
		}
		if !found {
			return 0, api.ErrAccount
		}
	}
	var e api.Errno
	if w.Front, q.Nonce, e = order.Nonce(w.Front, w.Now); e != api.OK {
		return 0, e
	}
	b, e := order.Bytes(q)
	if e != api.OK {
		return 0, e
	}
	if q.Sig, e = sign.Sign(secretOf(who), b); e != api.OK {
		return 0, e
	}
	var n int
	w.Front, n, e = order.Do(w.Front, q, w.Now)
	return n, e
}

func clientOf(w *api.World, who string) int {
	return slices.IndexFunc(w.Clients, func(c api.Client) bool { return c.Who == who })
}

// wanted is what Do of a world and a doing has to tell.
func wanted(w api.World, d api.Do) (api.World, api.Told) {
	if d.Kind < 1 || d.Kind > 23 || !mayBe(w) {
		return w, api.Told{E: api.ErrArg}
	}
	x := copied(w)
	n, e := step(&x, d)
	if e != api.OK && (d.Kind != api.LookDo || e != api.ErrVotes) {
		return w, api.Told{E: e}
	}
	return x, api.Told{E: e, N: n}
}

func mayBe(w api.World) bool {
	all := w.Now >= 0 && w.Now <= api.MaxTime && w.Session >= 0 && w.Session <= api.MaxTime && route.Check(w.Net) == api.OK && w.Need >= 1 && w.Need <= w.Net.Seen && len(w.Caches) == w.Net.Seen
	all = all && order.Check(w.Front) == api.OK && policy.Check(w.Policy) == api.OK && budget.Check(w.Spent) == api.OK && quorum.Check(w.Crew) == api.OK && revoke.Check(w.Revs) == api.OK
	all = all && len(w.Signers) == w.Crew.N && len(w.Logs) == 2 && cert.Check(w.Root) == api.OK && len(w.Clients) >= 1 && len(w.Clients) <= 4
	for _, c := range w.Caches {
		all = all && resolve.Check(c) == api.OK
	}
	for at, s := range w.Signers {
		all = all && signer.Check(s) == api.OK && s.Share.Id == at+1
	}
	for at, l := range w.Logs {
		all = all && logd.Check(l) == api.OK && l.Id == at
	}
	for _, c := range w.Certs {
		all = all && cert.Check(c) == api.OK
	}
	for at, c := range w.Clients {
		all = all && client.Check(c) == api.OK && clientOf(&w, c.Who) == at
	}
	return all
}

func step(w *api.World, d api.Do) (int, api.Errno) {
	switch d.Kind {
	case api.OwnDo, api.PutDo, api.DropDo, api.BendDo, api.FakeDo, api.TokenDo:
		return 0, stepOfNames(w, d)
	case api.JoinDo, api.OrderDo, api.LookDo, api.IssueDo, api.RevokeDo:
		return stepAtTheDoor(w, d)
	case api.BadDo, api.CrashDo, api.BackDo:
		return 0, stepOfSigners(w, d)
	case api.RogueDo:
		return rogueStep(w, d)
	case api.SplitDo, api.MergeDo, api.TickDo, api.WatchDo:
		return stepOfLogs(w, d)
	}
	return stepOfClients(w, d)
}

func stepOfNames(w *api.World, d api.Do) (e api.Errno) {
	switch d.Kind {
	case api.OwnDo:
		if !text(d.Who) {
			return api.ErrArg
		}
		if e := names.Check(d.Name); e != api.OK {
			return e
		}
		if _, found := zoneWith(w, 1, d.Name); !found {
			root, found := zoneWith(w, 0, "")
			if !found {
				return api.ErrArg
			}
			if e := putIn(w, 0, root, api.Rec{Name: d.Name, Kind: api.NsK, Value: "1", Life: 100}); e != api.OK {
				return e
			}
		}
		z, _ := zone.New(d.Name)
		w.Net, e = route.Put(w.Net, 1, z)
		event(w, api.Event{Kind: api.OwnedE, Who: d.Who, Name: d.Name})
		return e
	case api.PutDo, api.DropDo:
		z, _ := zoneFor(w, d.Rec.Name)
		if !hasName(w, d.Who, d.Rec.Name) {
			return api.ErrState
		}
		if d.Kind == api.PutDo {
			if slices.Contains(names.Labels(d.Rec.Name), "_seal") {
				return api.ErrName
			}
			if d.Rec.Kind == api.NsK {
				return api.ErrArg
			}
			return putIn(w, 1, z, d.Rec)
		}
		if z, e = zone.Drop(z, d.Rec); e == api.OK {
			w.Net, e = route.Put(w.Net, 1, z)
		}
		return e
	case api.BendDo:
		if d.N == 0 {
			w.Net, e = route.Mend(w.Net, d.Bend)
		} else if d.N == 1 {
			w.Net, e = route.Bend(w.Net, d.Bend)
		} else {
			e = api.ErrArg
		}
		return e
	case api.FakeDo:
		z, found := zoneWith(w, 7, "")
		if !found {
			return api.ErrArg
		}
		return putIn(w, 7, z, d.Rec)
	}
	for _, a := range w.Front.Auths {
		if a.Id == d.N {
			if w.Front.Accounts[a.Account-1].Key != keyOf(d.Who) {
				return api.ErrAccount
			}
			if !hasName(w, d.Who, a.Name) {
				return api.ErrState
			}
			z, _ := zoneFor(w, a.Name)
			return putIn(w, 1, z, api.Rec{Name: "_seal." + a.Name, Kind: api.TextK, Value: a.Token, Life: 100})
		}
	}
	return api.ErrNone
}

func stepAtTheDoor(w *api.World, d api.Do) (n int, e api.Errno) {
	switch d.Kind {
	case api.JoinDo:
		if !text(d.Who) {
			return 0, api.ErrArg
		}
		return asks(w, d.Who, api.Query{Kind: api.AccountQ, Key: keyOf(d.Who)})
	case api.OrderDo:
		if n, e = asks(w, d.Who, api.Query{Kind: api.OrderQ, Names: d.Names, Key: d.Key, Life: d.N}); e != api.OK {
			return 0, e
		}
		w.Books = append(w.Books, api.Booked{Who: d.Who, Names: d.Names, Key: d.Key, At: w.Now})
		event(w, api.Event{Kind: api.OrderedE, Who: d.Who, N: n})
		return n, api.OK
	case api.LookDo:
		if _, e = asks(w, d.Who, api.Query{Kind: api.LookQ, Id: d.N}); e != api.OK {
			return 0, e
		}
		return lookStep(w, d)
	case api.IssueDo:
		if _, e = asks(w, d.Who, api.Query{Kind: api.IssueQ, Id: d.N}); e != api.OK {
			return 0, e
		}
		return issueStep(w, d)
	}
	if _, e = asks(w, d.Who, api.Query{Kind: api.RevokeQ, Id: d.N}); e != api.OK {
		return 0, e
	}
	if w.Revs, e = revoke.Revoke(w.Revs, d.N); e != api.OK {
		return 0, e
	}
	event(w, api.Event{Kind: api.RevokedE, Who: d.Who, N: d.N})
	return 0, api.OK
}

func lookStep(w *api.World, d api.Do) (int, api.Errno) {
	a := w.Front.Auths[d.N-1]
	var caches []api.Cache
	for _, c := range w.Caches {
		var left []api.Kept
		for _, k := range c.L {
			if k.Name != "_seal."+a.Name {
				left = append(left, k)
			}
		}
		caches = append(caches, api.Cache{L: left})
	}
	seen, caches, look := vantage.Look(w.Net, caches, w.Now, a.Name, a.Token, "greatseal", w.Need)
	if look != api.OK && look != api.ErrVotes {
		return 0, look
	}
	var e api.Errno
	if w.Front, e = order.Saw(w.Front, d.N, look == api.OK, w.Now); e != api.OK {
		// So that this error is told apart from that of Look.
		return 0, e
	}
	w.Caches = caches
	event(w, api.Event{Kind: api.SeenE, Who: d.Who, Name: a.Name, N: d.N, M: len(route.Bent(w.Net))})
	return vantage.Votes(seen), look
}

func issueStep(w *api.World, d api.Do) (int, api.Errno) {
	wish, e := order.Wish(w.Front, d.N, w.Now)
	if e != api.OK {
		return 0, e
	}
	v, e := policy.Decide(w.Policy, wish)
	if e != api.OK {
		return 0, e
	}
	if !v.Allow {
		return 0, api.ErrRule
	}
	if w.Spent, e = budget.All(w.Spent, w.Policy.Rules, v.By, wish.Account, w.Now); e != api.OK {
		return 0, e
	}
	serial := len(w.Certs) + 1
	c, e := issue.Draft(wish, serial, w.Now, "greatseal")
	if e != api.OK {
		return 0, e
	}
	if w.Logs, c, e = issue.Promises(w.Logs, c, w.Now); e != api.OK {
		return 0, e
	}
	keys, _ := issue.Keys(w.Logs)
	if w.Signers, c, e = issue.Sign(w.Crew, w.Signers, w.Session+1, c, keys, w.Policy); e != api.OK {
		return 0, e
	}
	if w.Front, e = order.Done(w.Front, d.N, serial); e != api.OK {
		return 0, e
	}
	if w.Revs, e = revoke.Add(w.Revs, serial); e != api.OK {
		return 0, e
	}
	w.Session++
	w.Certs = append(w.Certs, c)
	event(w, api.Event{Kind: api.IssuedE, Who: d.Who, N: serial, M: d.N})
	return serial, api.OK
}

func stepOfSigners(w *api.World, d api.Do) (e api.Errno) {
	if d.N < 1 || d.N > w.Crew.N {
		return api.ErrArg
	}
	s := &w.Signers[d.N-1]
	switch d.Kind {
	case api.BadDo:
		*s, e = signer.Corrupt(*s)
		event(w, api.Event{Kind: api.BadE, N: d.N})
	case api.CrashDo:
		*s, e = signer.Crash(*s, int(d.Key%64))
	case api.BackDo:
		*s, e = signer.Back(*s)
	}
	return e
}

func rogueStep(w *api.World, d api.Do) (int, api.Errno) {
	var bad, others, ids []int
	for _, s := range w.Signers {
		if s.Bad && s.Up {
			bad = append(bad, s.Share.Id)
		} else {
			others = append(others, s.Share.Id)
		}
	}
	if len(bad) == 0 {
		return 0, api.ErrNone
	}
	c, e := issue.Draft(api.Wish{Names: d.Names, Key: d.Key, Life: 10}, len(w.Certs)+1, w.Now, "greatseal")
	if e != api.OK {
		return 0, e
	}
	body, e := cert.Body(c)
	if e != api.OK {
		return 0, e
	}
	bad = bad[:min(len(bad), w.Crew.T)]
	ids = append(slices.Clone(bad), others[:max(0, w.Crew.T-len(bad))]...)
	slices.Sort(ids)
	var commits []api.Share
	for _, id := range ids {
		commit := api.Share{Id: id, X: cyclic.Base(uint64(id))}
		if slices.Contains(bad, id) {
			if commit, e = quorum.Commit(w.Signers[id-1].Share, w.Session+1, body); e != api.OK {
				return 0, e
			}
		}
		commits = append(commits, commit)
	}
	for _, id := range bad {
		if s, part, e := signer.Part(w.Crew, w.Signers[id-1], w.Session+1, body, commits); e == api.OK {
			w.Signers[id-1] = s
			reports(w, report.Rogue(body, commits, part))
		}
	}
	w.Session++
	return len(w.Reports), api.OK
}

func stepOfLogs(w *api.World, d api.Do) (n int, e api.Errno) {
	if d.Kind == api.TickDo {
		if d.N < 0 || d.N > api.MaxTime-w.Now {
			return 0, api.ErrArg
		}
		w.Now += d.N
		for k, l := range w.Logs {
			due := false
			for _, leaf := range l.Wait {
				due = due || leaf.At+l.Delay <= w.Now
			}
			if due {
				w.Logs[k], _ = logd.Merge(l)
			}
		}
		return 0, api.OK
	}
	if d.N != 0 && d.N != 1 {
		return 0, api.ErrArg
	}
	l := &w.Logs[d.N]
	switch d.Kind {
	case api.SplitDo:
		*l, e = logd.Hide(*l)
		event(w, api.Event{Kind: api.SplitE, N: d.N})
		return 0, e
	case api.MergeDo:
		*l, e = logd.Merge(*l)
		return 0, e
	}
	var proms []api.Promise
	for _, c := range w.Certs {
		for _, p := range c.Proms {
			if p.Log == d.N {
				proms = append(proms, p)
			}
		}
	}
	key, _ := logd.Public(*l)
	for view := range 2 {
		leaves, _ := logd.Leaves(*l, view)
		h, _ := logd.Head(*l, view, len(l.L), w.Now)
		if missing := monitor.Missing(proms, h, leaves, key); len(missing) != 0 {
			reports(w, report.Broke(proms[missing[0]], h, leaves))
		}
	}
	certs, _ := monitor.Certs(*l, 0)
	return len(monitor.Strange(certs, w.Books)), api.OK
}

func stepOfClients(w *api.World, d api.Do) (n int, e api.Errno) {
	at := clientOf(w, d.Who)
	if at < 0 {
		return 0, api.ErrNone
	}
	c := &w.Clients[at]
	switch d.Kind {
	case api.FetchDo:
		if d.N != 0 && d.N != 1 {
			return 0, api.ErrArg
		}
		h, e := logd.Head(w.Logs[d.N], c.View, len(w.Logs[d.N].L), w.Now)
		if e != api.OK {
			return 0, e
		}
		if *c, e = client.Take(*c, h); e != api.OK {
			return 0, e
		}
		if a, b, is := gossip.Fork(c.Pool); is {
			reports(w, report.Fork(a, b))
		}
		return len(w.Logs[d.N].L), api.OK
	case api.DayDo:
		x, e := revoke.Day(w.Revs, w.Now)
		if e == api.OK {
			*c, e = client.Day(*c, x)
		}
		return 0, e
	case api.VisitDo:
		return 0, visitStep(w, d, *c)
	}
	return talkStep(w, d, at)
}

func visitStep(w *api.World, d api.Do, c api.Client) api.Errno {
	at := slices.IndexFunc(w.Certs, func(c api.Cert) bool { return c.Serial == d.N })
	if at < 0 {
		return api.ErrNone
	}
	site := w.Certs[at]
	o := api.Offer{Path: []api.Cert{site}}
	for _, p := range site.Proms {
		if p.Log != 0 && p.Log != 1 {
			continue
		}
		leaf, _ := cert.Leaf(site)
		leaves, _ := logd.Leaves(w.Logs[p.Log], c.View)
		place := slices.Index(leaves, leaf)
		greatest := -1
		for _, h := range c.Pool.L {
			if h.Log == p.Log && h.Size > place && h.Size > greatest {
				greatest = h.Size
			}
		}
		if place < 0 || greatest < 0 {
			continue
		}
		if x, e := logd.Prove(w.Logs[p.Log], c.View, place, greatest); e == api.OK {
			o.Where = append(o.Where, x)
		}
	}
	if e := client.Accept(c, o, d.Name, route.Clock(w.Net, d.Who, w.Now)); e != api.OK {
		return e
	}
	event(w, api.Event{Kind: api.AcceptedE, Who: d.Who, Name: d.Name, N: d.N, M: c.Cascade.Day})
	return api.OK
}

func talkStep(w *api.World, d api.Do, first int) (int, api.Errno) {
	second := clientOf(w, d.Name)
	if second < 0 {
		return 0, api.ErrNone
	}
	if first == second {
		return 0, api.ErrArg
	}
	pools := [2][]api.Head{slices.Clone(w.Clients[first].Pool.L), slices.Clone(w.Clients[second].Pool.L)}
	for k, at := range []int{first, second} {
		for _, h := range pools[1-k] {
			for _, l := range w.Logs {
				if l.Id != h.Log || len(l.L) < h.Size {
					continue
				}
				own, _ := logd.Head(l, w.Clients[at].View, h.Size, w.Now)
				if c, e := client.Take(w.Clients[at], own); e == api.OK {
					w.Clients[at] = c
				}
			}
		}
	}
	both := gossip.Merge(w.Clients[first].Pool, w.Clients[second].Pool)
	w.Clients[first].Pool, w.Clients[second].Pool = both, both
	if a, b, is := gossip.Fork(both); is {
		reports(w, report.Fork(a, b))
	}
	return len(w.Reports), api.OK
}

// frameOf is what a store has of bytes.
func frameOf(s string) []byte {
	b := []byte{0, 0, byte(len(s) >> 8), byte(len(s))}
	return append(append(b, s...), hash.Bytes(hash.Sum([]byte(s)))...)
}
