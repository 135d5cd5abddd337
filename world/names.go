package world

import (
	"slices"

	"greatseal/api"
	"greatseal/names"
	"greatseal/route"
	"greatseal/vantage"
	"greatseal/zone"
)

const (
	// The label at which tokens stand: those are put by who has an authorization alone.
	tokenLabel = "_seal"

	// What a cut to the server of names has as its value.
	toNames = "1"
	// For how long cuts and tokens may be kept.
	longLife = 100
)

func (w *work) own() {
	name := w.do.Name
	need(isText(w.do.Who), api.ErrArg)
	must(names.Check(name))
	if _, there := w.zoneAt(namesServer, name); !there {
		top, there := w.zoneAt(rootServer, "")
		need(there, api.ErrArg)
		w.serve(rootServer, got(zone.Put(top, api.Rec{Name: name, Kind: api.NsK, Value: toNames, Life: longLife})))
	}
	w.serve(namesServer, got(zone.New(name)))
	w.happened(api.Event{Kind: api.OwnedE, Who: w.do.Who, Name: name})
}

func (w *work) put() {
	rec := w.do.Rec
	own := w.ownZone(rec.Name)
	need(!slices.Contains(names.Labels(rec.Name), tokenLabel), api.ErrName)
	need(rec.Kind != api.NsK, api.ErrArg)
	w.serve(namesServer, got(zone.Put(own, rec)))
}

func (w *work) drop() {
	own := w.ownZone(w.do.Rec.Name)
	w.serve(namesServer, got(zone.Drop(own, w.do.Rec)))
}

func (w *work) bend() {
	switch w.do.N {
	case 0:
		w.Net = got(route.Mend(w.Net, w.do.Bend))
	case 1:
		w.Net = got(route.Bend(w.Net, w.do.Bend))
	default:
		must(api.ErrArg)
	}
}

func (w *work) fake() {
	z, there := w.zoneAt(falseServer, "")
	need(there, api.ErrArg)
	w.serve(falseServer, got(zone.Put(z, w.do.Rec)))
}

func (w *work) token() {
	at := slices.IndexFunc(w.Front.Auths, func(a api.Auth) bool { return a.Id == w.do.N })
	need(at >= 0, api.ErrNone)
	auth, key := w.Front.Auths[at], keyOf(w.do.Who)
	need(slices.ContainsFunc(w.Front.Accounts, func(a api.Account) bool { return a.Id == auth.Account && a.Key == key }), api.ErrAccount)
	own := w.ownZone(auth.Name)
	w.serve(namesServer, got(zone.Put(own, api.Rec{Name: vantage.At(auth.Name), Kind: api.TextK, Value: auth.Token, Life: longLife})))
}
