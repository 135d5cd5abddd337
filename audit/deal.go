package audit

import (
	"slices"

	"greatseal/api"
	"greatseal/hash"
	"greatseal/sign"
)

// deal is how a certificate came about: its issue is an event, told by its place.
type deal struct {
	site    api.Cert
	issue   int
	order   api.Order
	account api.Account
}

// dealOf is that of the certificate of an event, if all of it is there.
func dealOf(w api.World, e api.Event) (deal, bool) {
	site, known := first(w.Certs, func(c api.Cert) bool { return c.Serial == e.N })
	issue := slices.IndexFunc(w.Events, func(other api.Event) bool { return other.Kind == api.IssuedE && other.N == e.N })
	if !known || issue < 0 {
		return deal{}, false
	}
	order, ordered := first(w.Front.Orders, func(o api.Order) bool { return o.Id == w.Events[issue].M })
	account, joined := first(w.Front.Accounts, func(a api.Account) bool { return a.Id == order.Account })
	return deal{site: site, issue: issue, order: order, account: account}, ordered && joined
}

func first[T any](l []T, is func(x T) bool) (T, bool) {
	at := slices.IndexFunc(l, is)
	if at < 0 {
		var none T
		return none, false
	}
	return l[at], true
}

// shows tells whether an authorization of the order was seen, in time, to be of who had the name.
func (d deal) shows(w api.World, name string) bool {
	return slices.ContainsFunc(w.Front.Auths, func(a api.Auth) bool {
		return a.Name == name && slices.Contains(d.order.Auths, a.Id) && d.wasSeen(w.Events, a.Id, name)
	})
}

// wasSeen looks at the last time ahead of the issue at which an authorization was looked at.
func (d deal) wasSeen(l []api.Event, id int, name string) bool {
	for at, e := range slices.Backward(l[:d.issue]) {
		if e.Kind == api.SeenE && e.N == id {
			return e.Name == name && l[d.issue].At-e.At <= longest && d.account.Key == keyOf(Owner(l[:at], name, e.At))
		}
	}
	return false
}

// keyOf is somebody's key. (Of a seed there is always one.)
func keyOf(who string) uint64 {
	key, _ := sign.Public(sign.Secret(hash.Bytes(hash.Tagged("account", []byte(who)))))
	return key
}
