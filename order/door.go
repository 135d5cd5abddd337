package order

import (
	"slices"
	"strconv"

	"greatseal/api"
	"greatseal/cyclic"
	"greatseal/names"
	"greatseal/nonce"
)

func isNumber(n int) bool { return n >= 0 && n <= api.MaxTime }

// isIn asks of a list whose Ids are 1, 2, and on.
func isIn[T any](l []T, id int) bool { return id >= 1 && id <= len(l) }

func tokenOf(a api.Auth) string { return strconv.Itoa(a.Id) + "-" + strconv.Itoa(a.Account) }

func holds(a api.Auth, now int) bool { return a.State == api.Valid && a.Until >= now }

func allHold(f api.Front, o api.Order, now int) bool {
	return !slices.ContainsFunc(o.Auths, func(id int) bool { return !holds(f.Auths[id-1], now) })
}

func mayBeOrdered(all []string, key uint64, life int) bool {
	if len(all) < 1 || len(all) > api.MaxNames || !cyclic.In(key) || life < 1 || life > mostLife {
		return false
	}
	for at, name := range all {
		if names.Check(name) != api.OK || slices.Contains(all[:at], name) {
			return false
		}
	}
	return true
}

func mayBe(f api.Front) bool {
	return nonce.Check(f.Fence) == api.OK && isNumber(f.Serial) && accountsMayBe(f) && authsMayBe(f) && ordersMayBe(f)
}

func accountsMayBe(f api.Front) bool {
	keys := make(map[uint64]bool)
	for at, a := range f.Accounts {
		if a.Id != at+1 || !cyclic.In(a.Key) || keys[a.Key] {
			return false
		}
		keys[a.Key] = true
	}
	return true
}

func authsMayBe(f api.Front) bool {
	for at, a := range f.Auths {
		if a.Id != at+1 || !isIn(f.Accounts, a.Account) || names.Check(a.Name) != api.OK || a.Token != tokenOf(a) || !timesMayBe(a) {
			return false
		}
	}
	return true
}

func timesMayBe(a api.Auth) bool {
	switch a.State {
	case api.Valid:
		return isNumber(a.At) && a.Until == a.At+lifeOfAuth
	case api.Pending, api.Asked, api.Failed:
		return a.At == 0 && a.Until == 0
	}
	return false
}

func ordersMayBe(f api.Front) bool {
	serials := make(map[int]bool)
	for at, o := range f.Orders {
		if o.Id != at+1 || !isIn(f.Accounts, o.Account) || !mayBeOrdered(o.Names, o.Key, o.Life) || !authsFit(f, o) || !serialMayBe(f, o) {
			return false
		}
		if o.State == api.Issued && serials[o.Serial] {
			return false
		}
		serials[o.Serial] = true
	}
	return true
}

// authsFit asks whether an order has an authorization of its own account for each name.
func authsFit(f api.Front, o api.Order) bool {
	if len(o.Auths) != len(o.Names) {
		return false
	}
	for at, id := range o.Auths {
		if !isIn(f.Auths, id) || f.Auths[id-1].Account != o.Account || f.Auths[id-1].Name != o.Names[at] {
			return false
		}
	}
	return true
}

func serialMayBe(f api.Front, o api.Order) bool {
	switch o.State {
	case api.Issued:
		return o.Serial >= 1 && o.Serial <= f.Serial
	case api.Pending, api.Asked:
		return o.Serial == 0
	}
	return false
}

// copyOf is a door of its own, whose lists whoever handed it in has not.
func copyOf(f api.Front) api.Front {
	f.Fence.Open = slices.Clone(f.Fence.Open)
	f.Accounts = slices.Clone(f.Accounts)
	f.Auths = slices.Clone(f.Auths)
	f.Orders = slices.Clone(f.Orders)
	for at, o := range f.Orders {
		f.Orders[at].Names, f.Orders[at].Auths = slices.Clone(o.Names), slices.Clone(o.Auths)
	}
	return f
}
