package world

import (
	"slices"

	"greatseal/api"
	"greatseal/hash"
	"greatseal/order"
	"greatseal/report"
	"greatseal/route"
	"greatseal/sign"
	"greatseal/zone"
)

// work is a world in which something is done: what that tells, too.
type work struct {
	api.World
	do   api.Do
	told api.Told
}

// stop is how somebody gives up who can't go on.
type stop struct {
	e api.Errno
}

func must(e api.Errno) {
	if e != api.OK {
		panic(stop{e: e})
	}
}

func got[T any](x T, e api.Errno) T {
	must(e)
	return x
}

// need gives up, unless something is so.
func need(holds bool, e api.Errno) {
	if !holds {
		panic(stop{e: e})
	}
}

// gaveUp is the error with which somebody gave up: a fault of the program's own is nobody's giving up.
func gaveUp(thrown any) api.Errno {
	if thrown == nil {
		return api.OK
	}
	s, is := thrown.(stop)
	if !is {
		panic(thrown)
	}
	return s.e
}

// with is a list with something behind it, in memory of its own: others may have the list, too.
func with[T any](l []T, x T) []T { return append(slices.Clip(l), x) }

// turned is a list with something else at a place.
func turned[T any](l []T, at int, x T) []T {
	l = slices.Clone(l)
	l[at] = x
	return l
}

// happened puts an event behind the others.
func (w *work) happened(e api.Event) {
	e.At = w.Now
	w.Events = with(w.Events, e)
}

func (w *work) reported(r api.Report) {
	if !slices.ContainsFunc(w.Reports, func(other api.Report) bool { return report.Same(other, r) }) {
		w.Reports = with(w.Reports, r)
	}
}

func secretOf(who string) uint64 {
	return sign.Secret(hash.Bytes(hash.Tagged("account", []byte(who))))
}

func keyOf(who string) uint64 {
	return got(sign.Public(secretOf(who)))
}

// ask asks something of the door, as who does it: what that tells.
func (w *work) ask(q api.Query) int {
	who := w.do.Who
	if q.Kind != api.AccountQ {
		key := keyOf(who)
		at := slices.IndexFunc(w.Front.Accounts, func(a api.Account) bool { return a.Key == key })
		need(at >= 0, api.ErrAccount)
		q.Account = w.Front.Accounts[at].Id
	}
	front, nonce, e := order.Nonce(w.Front, w.Now)
	must(e)
	q.Nonce = nonce
	q.Sig = got(sign.Sign(secretOf(who), got(order.Bytes(q))))
	front, n, e := order.Do(front, q, w.Now)
	must(e)
	w.Front = front
	return n
}

// zones are those of a server: none, if there is no such server.
func (w *work) zones(addr int) []api.Zone {
	for _, s := range w.Net.Servers {
		if s.Addr == addr {
			return s.Zones
		}
	}
	return nil
}

func (w *work) zoneAt(addr int, apex string) (api.Zone, bool) {
	zones := w.zones(addr)
	at := slices.IndexFunc(zones, func(z api.Zone) bool { return z.Apex == apex })
	if at < 0 {
		return api.Zone{}, false
	}
	return zones[at], true
}

// zoneOf is a name's zone.
func (w *work) zoneOf(name string) (api.Zone, bool) {
	zones := w.zones(namesServer)
	at, there := zone.Best(zones, name)
	if !there {
		return api.Zone{}, false
	}
	return zones[at], true
}

// ownZone is that of a name that who does it has to have.
func (w *work) ownZone(name string) api.Zone {
	z, there := w.zoneOf(name)
	need(there && w.hasZone(z.Apex), api.ErrState)
	return z
}

// hasZone tells whether who does it was the last one to be told to have an apex.
func (w *work) hasZone(apex string) bool {
	for _, e := range slices.Backward(w.Events) {
		if e.Kind == api.OwnedE && e.Name == apex {
			return e.Who == w.do.Who
		}
	}
	return false
}

// serve puts a zone at a server.
func (w *work) serve(addr int, z api.Zone) { w.Net = got(route.Put(w.Net, addr, z)) }
