package order

import (
	"slices"

	"greatseal/api"
)

// deeds are what the kinds of requests do: each changes the door, and tells a number.
func deeds() map[int]func(d *door) (int, api.Errno) {
	return map[int]func(d *door) (int, api.Errno){
		api.AccountQ: (*door).join,
		api.OrderQ:   (*door).order,
		api.LookQ:    (*door).look,
		api.IssueQ:   (*door).issue,
		api.RevokeQ:  (*door).revoke,
	}
}

func (d *door) join() (int, api.Errno) {
	if at := slices.IndexFunc(d.Accounts, func(a api.Account) bool { return a.Key == d.query.Key }); at >= 0 {
		return d.Accounts[at].Id, api.OK
	}
	if len(d.Accounts) == mostAccounts {
		return 0, api.ErrBound
	}
	id := len(d.Accounts) + 1
	d.Accounts = append(d.Accounts, api.Account{Id: id, Key: d.query.Key})
	return id, api.OK
}

func (d *door) order() (int, api.Errno) {
	id := len(d.Orders) + 1
	o := api.Order{Id: id, Account: d.query.Account, Names: slices.Clone(d.query.Names), Key: d.query.Key, Life: d.query.Life, State: api.Pending}
	for _, name := range o.Names {
		o.Auths = append(o.Auths, d.authOf(name))
	}
	d.Orders = append(d.Orders, o)
	if len(d.Auths) > mostAuths || len(d.Orders) > mostOrders {
		return 0, api.ErrBound
	}
	return id, api.OK
}

// authOf is an authorization of who asks that serves for some time still, or else a new one.
func (d *door) authOf(name string) int {
	serves := func(a api.Auth) bool {
		return a.Account == d.query.Account && a.Name == name && a.State == api.Valid && a.Until > d.now
	}
	if at := slices.IndexFunc(d.Auths, serves); at >= 0 {
		return d.Auths[at].Id
	}
	a := api.Auth{Id: len(d.Auths) + 1, Account: d.query.Account, Name: name, State: api.Pending}
	a.Token = tokenOf(a)
	d.Auths = append(d.Auths, a)
	return a.Id
}

func (d *door) look() (int, api.Errno) {
	id := d.query.Id
	if !isIn(d.Auths, id) || d.Auths[id-1].Account != d.query.Account {
		return 0, api.ErrNone
	}
	a := &d.Auths[id-1]
	if a.State != api.Pending && a.State != api.Failed {
		return 0, api.ErrState
	}
	a.State = api.Asked
	return id, api.OK
}

func (d *door) issue() (int, api.Errno) {
	id := d.query.Id
	if !isIn(d.Orders, id) || d.Orders[id-1].Account != d.query.Account {
		return 0, api.ErrNone
	}
	o := &d.Orders[id-1]
	if o.State != api.Pending || !allHold(d.Front, *o, d.now) {
		return 0, api.ErrState
	}
	o.State = api.Asked
	return id, api.OK
}

// revoke changes nothing here: that it is revoked somebody else is told.
func (d *door) revoke() (int, api.Errno) {
	isIt := func(o api.Order) bool {
		return o.Account == d.query.Account && o.State == api.Issued && o.Serial == d.query.Id
	}
	if !slices.ContainsFunc(d.Orders, isIt) {
		return 0, api.ErrNone
	}
	return d.query.Id, api.OK
}
