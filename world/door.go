package world

import (
	"slices"

	"greatseal/api"
	"greatseal/budget"
	"greatseal/issue"
	"greatseal/order"
	"greatseal/policy"
	"greatseal/revoke"
	"greatseal/route"
	"greatseal/vantage"
)

func (w *work) join() {
	need(isText(w.do.Who), api.ErrArg)
	w.told.N = w.ask(api.Query{Kind: api.AccountQ, Key: keyOf(w.do.Who)})
}

func (w *work) order() {
	d := w.do
	n := w.ask(api.Query{Kind: api.OrderQ, Names: d.Names, Key: d.Key, Life: d.N})
	w.Books = with(w.Books, api.Booked{Who: d.Who, Names: slices.Clone(d.Names), Key: d.Key, At: w.Now})
	w.happened(api.Event{Kind: api.OrderedE, Who: d.Who, N: n})
	w.told.N = n
}

func (w *work) look() {
	id := w.ask(api.Query{Kind: api.LookQ, Id: w.do.N})
	// Whoever may ask for it knows that there is one.
	auth := w.Front.Auths[slices.IndexFunc(w.Front.Auths, func(a api.Auth) bool { return a.Id == id })]
	seen, caches, e := vantage.Look(w.Net, without(w.Caches, vantage.At(auth.Name)), w.Now, auth.Name, auth.Token, authority, w.Need)
	if e != api.ErrVotes {
		must(e)
	}
	w.Front = got(order.Saw(w.Front, id, e == api.OK, w.Now))
	w.Caches = caches
	w.happened(api.Event{Kind: api.SeenE, Who: w.do.Who, Name: auth.Name, N: id, M: len(route.Bent(w.Net))})
	w.told = api.Told{E: e, N: vantage.Votes(seen)}
}

func (w *work) issue() {
	id := w.ask(api.Query{Kind: api.IssueQ, Id: w.do.N})
	wish := got(order.Wish(w.Front, id, w.Now))
	verdict := got(policy.Decide(w.Policy, wish))
	need(verdict.Allow, api.ErrRule)
	w.Spent = got(budget.All(w.Spent, w.Policy.Rules, verdict.By, wish.Account, w.Now))
	serial, session := len(w.Certs)+1, w.Session+1
	logs, promised, e := issue.Promises(w.Logs, got(issue.Draft(wish, serial, w.Now, authority)), w.Now)
	must(e)
	signers, site, e := issue.Sign(w.Crew, w.Signers, session, promised, Keys(w.World), w.Policy)
	must(e)
	w.Front = got(order.Done(w.Front, id, serial))
	w.Revs = got(revoke.Add(w.Revs, serial))
	w.Logs, w.Signers, w.Session, w.Certs = logs, signers, session, with(w.Certs, site)
	w.happened(api.Event{Kind: api.IssuedE, Who: w.do.Who, N: serial, M: id})
	w.told.N = serial
}

func (w *work) revoke() {
	serial := w.ask(api.Query{Kind: api.RevokeQ, Id: w.do.N})
	w.Revs = got(revoke.Revoke(w.Revs, serial))
	w.happened(api.Event{Kind: api.RevokedE, Who: w.do.Who, N: serial})
}

// without are caches without what they keep of a name: who looks anew is not to see what was there.
func without(l []api.Cache, name string) []api.Cache {
	caches := make([]api.Cache, 0, len(l))
	for _, c := range l {
		caches = append(caches, api.Cache{L: slices.DeleteFunc(slices.Clone(c.L), func(k api.Kept) bool { return k.Name == name })})
	}
	return caches
}
