package world

import (
	"slices"

	"greatseal/api"
	"greatseal/cert"
	"greatseal/client"
	"greatseal/gossip"
	"greatseal/logd"
	"greatseal/report"
	"greatseal/revoke"
	"greatseal/route"
)

// clientAt is the place of a client.
func (w *work) clientAt(who string) int {
	at := slices.IndexFunc(w.Clients, func(c api.Client) bool { return c.Who == who })
	need(at >= 0, api.ErrNone)
	return at
}

func (w *work) fetch() {
	at := w.clientAt(w.do.Who)
	l := w.log()
	c := w.Clients[at]
	c = got(client.Take(c, got(logd.Head(l, c.View, len(l.L), w.Now))))
	w.Clients = turned(w.Clients, at, c)
	w.reportFork(c.Pool)
	w.told.N = len(l.L)
}

func (w *work) day() {
	at := w.clientAt(w.do.Who)
	w.Clients = turned(w.Clients, at, got(client.Day(w.Clients[at], got(revoke.Day(w.Revs, w.Now)))))
}

func (w *work) visit() {
	c := w.Clients[w.clientAt(w.do.Who)]
	at := slices.IndexFunc(w.Certs, func(site api.Cert) bool { return site.Serial == w.do.N })
	need(at >= 0, api.ErrNone)
	site := w.Certs[at]
	offer := api.Offer{Path: []api.Cert{site}}
	for _, p := range site.Proms {
		if place, found := w.place(c, site, p.Log); found {
			offer.Where = append(offer.Where, place)
		}
	}
	must(client.Accept(c, offer, w.do.Name, route.Clock(w.Net, c.Who, w.Now)))
	w.happened(api.Event{Kind: api.AcceptedE, Who: c.Who, Name: w.do.Name, N: w.do.N, M: c.Cascade.Day})
}

// place is where a certificate stands in a log, as a client sees it by the greatest head that it holds.
func (w *work) place(c api.Client, site api.Cert, log int) (api.Place, bool) {
	if log >= logs {
		return api.Place{}, false
	}
	l := w.Logs[log]
	// Of certificates, and logs, that may be there are always leaves.
	leaf, _ := cert.Leaf(site)
	leaves, _ := logd.Leaves(l, c.View)
	size := 0
	for _, h := range c.Pool.L {
		if h.Log == log {
			size = max(size, h.Size)
		}
	}
	// Of a leaf that is not there, or of which no head tells, nothing is proved.
	place, e := logd.Prove(l, c.View, slices.Index(leaves, leaf), size)
	return place, e == api.OK
}

func (w *work) talk() {
	first, second := w.clientAt(w.do.Who), w.clientAt(w.do.Name)
	need(first != second, api.ErrArg)
	a, b := w.Clients[first], w.Clients[second]
	one, other := w.asking(a, b.Pool).Pool, w.asking(b, a.Pool).Pool
	a.Pool, b.Pool = gossip.Merge(one, other), gossip.Merge(one, other)
	w.Clients = turned(turned(w.Clients, first, a), second, b)
	w.reportFork(a.Pool)
	w.told.N = len(w.Reports)
}

// asking is a client that asks for a head of each size of which another one has one, as its own view has it.
func (w *work) asking(c api.Client, other api.Pool) api.Client {
	// Of one size a log tells one head at one time, however often it is asked; heads of one size stand together.
	once := slices.CompactFunc(slices.Clone(other.L), func(a, b api.Head) bool { return a.Log == b.Log && a.Size == b.Size })
	for _, h := range once {
		if h.Log >= logs {
			continue
		}
		// A size that the log has not, and a head for which there is no room, are nobody's fault.
		if own, e := logd.Head(w.Logs[h.Log], c.View, h.Size, w.Now); e == api.OK {
			if x, e := client.Take(c, own); e == api.OK {
				c = x
			}
		}
	}
	return c
}

func (w *work) reportFork(p api.Pool) {
	if a, b, is := gossip.Fork(p); is {
		w.reported(report.Fork(a, b))
	}
}
