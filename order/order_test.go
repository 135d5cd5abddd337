package order_test

import (
	"bytes"
	"encoding/binary"
	"math"
	"slices"
	"strconv"
	"strings"
	"testing"

	"greatseal/api"
	"greatseal/order"
	"greatseal/sign"
)

// secret is that of whoever is called so.
func secret(who string) uint64 { return sign.Secret([]byte(who)) }

func public(who string) uint64 {
	key, _ := sign.Public(secret(who))
	return key
}

func token(id, account int) string { return strconv.Itoa(id) + "-" + strconv.Itoa(account) }

func auth(id, account int, name string, state, at int) api.Auth {
	a := api.Auth{Id: id, Account: account, Name: name, Token: token(id, account), State: state}
	if state == api.Valid {
		a.At, a.Until = at, at+50
	}
	return a
}

// some is a door with three accounts, and with authorizations and orders in each state.
func some() api.Front {
	return api.Front{
		Fence:    api.Fence{Next: 12, Open: []api.Nonce{{N: 2, Until: 65}, {N: 5, Until: 20}, {N: 9, Until: api.MaxTime}}},
		Accounts: []api.Account{{Id: 1, Key: public("anna")}, {Id: 2, Key: public("bert")}, {Id: 3, Key: public("cleo")}},
		Auths: []api.Auth{
			auth(1, 1, "a.b", api.Valid, 10), auth(2, 1, "c.b", api.Pending, 0), auth(3, 2, "a.b", api.Valid, 30), auth(4, 1, "d.b", api.Asked, 0),
			auth(5, 1, "e.b", api.Failed, 0), auth(6, 1, "a.b", api.Valid, 20), auth(7, 1, "c.b", api.Valid, 40), auth(8, 2, "x", api.Failed, 0),
			auth(9, 2, "y", api.Valid, 0), auth(10, 3, "a.b", api.Pending, 0), auth(11, 2, "d.b", api.Asked, 0),
		},
		Orders: []api.Order{
			{Id: 1, Account: 1, Names: []string{"a.b"}, Key: 4, Life: 90, Auths: []int{1}, State: api.Pending},
			{Id: 2, Account: 1, Names: []string{"c.b", "a.b"}, Key: 16, Life: 1, Auths: []int{7, 6}, State: api.Asked},
			{Id: 3, Account: 1, Names: []string{"a.b", "d.b"}, Key: 4, Life: 1000, Auths: []int{6, 4}, State: api.Pending},
			{Id: 4, Account: 2, Names: []string{"a.b", "y"}, Key: 4, Life: 5, Auths: []int{3, 9}, State: api.Pending},
			{Id: 5, Account: 2, Names: []string{"a.b"}, Key: 4, Life: 5, Auths: []int{3}, State: api.Issued, Serial: 5},
			{Id: 6, Account: 1, Names: []string{"c.b"}, Key: 64, Life: 5, Auths: []int{2}, State: api.Issued, Serial: 3},
			{Id: 7, Account: 1, Names: []string{"e.b"}, Key: 4, Life: 5, Auths: []int{5}, State: api.Asked},
			{Id: 8, Account: 2, Names: []string{"y", "a.b"}, Key: 4, Life: 7, Auths: []int{9, 3}, State: api.Asked},
		},
		Serial: 7,
	}
}

// many is a door with so many accounts, authorizations (the first two of which are Valid from 10 on) and orders, and with one nonce, 0.
func many(accounts, auths, orders int) api.Front {
	f := api.Front{Fence: api.Fence{Next: 1, Open: []api.Nonce{{Until: api.MaxTime}}}}
	for k := range accounts {
		f.Accounts = append(f.Accounts, api.Account{Id: k + 1, Key: public(strconv.Itoa(k))})
	}
	for k := range auths {
		state := api.Pending
		if k < 2 {
			state = api.Valid
		}
		f.Auths = append(f.Auths, auth(k+1, 1, "n"+strconv.Itoa(k), state, 10))
	}
	for k := range orders {
		f.Orders = append(f.Orders, api.Order{Id: k + 1, Account: 1, Names: []string{"n0"}, Key: 4, Life: 1, Auths: []int{1}, State: api.Pending})
	}
	return f
}

func copied(f api.Front) api.Front {
	f.Fence.Open, f.Accounts = slices.Clone(f.Fence.Open), slices.Clone(f.Accounts)
	f.Auths, f.Orders = slices.Clone(f.Auths), slices.Clone(f.Orders)
	for k, o := range f.Orders {
		f.Orders[k].Names, f.Orders[k].Auths = slices.Clone(o.Names), slices.Clone(o.Auths)
	}
	return f
}

func changed(f api.Front, change func(f *api.Front)) api.Front {
	f = copied(f)
	change(&f)
	return f
}

func sameOrder(a, b api.Order) bool {
	return a.Id == b.Id && a.Account == b.Account && slices.Equal(a.Names, b.Names) && a.Key == b.Key && a.Life == b.Life && slices.Equal(a.Auths, b.Auths) && a.State == b.State && a.Serial == b.Serial
}

func same(a, b api.Front) bool {
	return a.Fence.Next == b.Fence.Next && slices.Equal(a.Fence.Open, b.Fence.Open) && slices.Equal(a.Accounts, b.Accounts) && slices.Equal(a.Auths, b.Auths) && slices.EqualFunc(a.Orders, b.Orders, sameOrder) && a.Serial == b.Serial
}

func noNumbers() []int {
	return []int{math.MinInt, -2, -1, api.MaxTime + 1, api.MaxTime + 2, math.MaxInt}
}

// noKeys are none of the group: 2 is no square, and of a number and what is missing from it to Q just one is.
func noKeys() []uint64 {
	return []uint64{0, 2, api.Q - 1, api.Q - 4, api.Q, api.Q + 4, math.MaxUint64}
}

func nineNames() []string { return strings.Split("a b c d e f g h i", " ") }

// noNames may not be ordered.
func noNames() [][]string {
	return [][]string{nil, {}, {""}, {"a..b"}, {"*.b"}, {"A.b"}, {"a.b", ""}, {"a.b", "a.b"}, {"a.b", "c.b", "a.b"}, {strings.Repeat("a", 17)}, {strings.Repeat("abcdefg.", 8) + "a"}, nineNames()}
}

// P22.1

func TestNew(t *testing.T) {
	if f := order.New(); !same(f, api.Front{}) || order.Check(f) != api.OK {
		t.Errorf("New tells %v", f)
	}
}

func checked(t *testing.T, what string, want api.Errno, f api.Front) {
	t.Helper()
	if e := order.Check(f); e != want {
		t.Errorf("%s: Check(%v) is %d, not %d", what, f, e, want)
	}
	// Whoever is handed a door looks at it first, whatever else is wrong.
	if want == api.OK {
		return
	}
	if x, n, e := order.Nonce(f, -1); e != want || n != 0 || !same(x, api.Front{}) {
		t.Errorf("%s: Nonce tells %v, %d, %d", what, x, n, e)
	}
	if x, n, e := order.Do(f, api.Query{}, -1); e != want || n != 0 || !same(x, api.Front{}) {
		t.Errorf("%s: Do tells %v, %d, %d", what, x, n, e)
	}
	if x, e := order.Saw(f, 0, true, -1); e != want || !same(x, api.Front{}) {
		t.Errorf("%s: Saw tells %v, %d", what, x, e)
	}
	if w, e := order.Wish(f, 0, -1); e != want || !sameWish(w, api.Wish{}) {
		t.Errorf("%s: Wish tells %v, %d", what, w, e)
	}
	if x, e := order.Done(f, 0, -1); e != want || !same(x, api.Front{}) {
		t.Errorf("%s: Done tells %v, %d", what, x, e)
	}
}

func TestCheckOfWhatMayBe(t *testing.T) {
	checked(t, "some", api.OK, some())
	checked(t, "none", api.OK, api.Front{Fence: api.Fence{Open: []api.Nonce{}}, Accounts: []api.Account{}, Auths: []api.Auth{}, Orders: []api.Order{}})
	checked(t, "as many as may be", api.OK, many(64, 256, 128))
	checked(t, "orders of one authorization", api.OK, many(1, 1, 5))
	for _, serial := range []int{0, 1, api.MaxTime - 1, api.MaxTime} {
		checked(t, "a serial number", api.OK, changed(many(1, 1, 1), func(f *api.Front) { f.Serial = serial }))
	}
	for _, serial := range []int{1, 2, 4, 6, 7} {
		checked(t, "an order's serial number", api.OK, changed(some(), func(f *api.Front) { f.Orders[5].Serial = serial }))
	}
	for _, at := range []int{0, 1, api.MaxTime - 50, api.MaxTime} {
		checked(t, "a time", api.OK, changed(some(), func(f *api.Front) { f.Auths[0].At, f.Auths[0].Until = at, at+50 }))
	}
	for _, life := range []int{1, 2, 999, 1000} {
		checked(t, "a life", api.OK, changed(some(), func(f *api.Front) { f.Orders[0].Life = life }))
	}
	for _, key := range []uint64{1, 4, public("anna"), api.Q - 2} {
		checked(t, "an order's key", api.OK, changed(some(), func(f *api.Front) { f.Orders[0].Key = key }))
	}
	for _, state := range []int{api.Pending, api.Asked, api.Failed} {
		checked(t, "a state of an authorization", api.OK, changed(some(), func(f *api.Front) { f.Auths[3].State = state }))
	}
	for _, state := range []int{api.Pending, api.Asked} {
		checked(t, "a state of an order", api.OK, changed(some(), func(f *api.Front) { f.Orders[0].State = state }))
	}
	checked(t, "eight names", api.OK, eightNames())
	checked(t, "64 nonces", api.OK, changed(some(), func(f *api.Front) { f.Fence = nonces(64) }))
}

// eightNames is a door with an order of eight names, one of which is as long as may be.
func eightNames() api.Front {
	f := many(2, 0, 1)
	o := &f.Orders[0]
	o.Names = append(nineNames()[:7], strings.Repeat("abcdefg.", 7)+"abcdefgh")
	o.Auths = nil
	for k, name := range o.Names {
		f.Auths = append(f.Auths, auth(k+1, 1, name, api.Pending, 0))
		o.Auths = append(o.Auths, k+1)
	}
	return f
}

func nonces(number int) api.Fence {
	f := api.Fence{Next: number}
	for k := range number {
		f.Open = append(f.Open, api.Nonce{N: k, Until: 100})
	}
	return f
}

func TestCheckOfWhatMayNotBe(t *testing.T) {
	for what, l := range map[string][]func(f *api.Front){"door": wrongDoors(), "account": wrongAccounts(), "authorization": wrongAuths(), "order": wrongOrders()} {
		for k, change := range l {
			checked(t, what+" "+strconv.Itoa(k), api.ErrArg, changed(some(), change))
		}
	}
	// Whatever else there is too much of.
	for _, f := range []api.Front{many(65, 1, 1), many(1, 257, 1), many(1, 1, 129)} {
		checked(t, "a wrong serial number", api.ErrArg, changed(f, func(f *api.Front) { f.Serial = -1 }))
		checked(t, "a wrong life", api.ErrArg, changed(f, func(f *api.Front) { f.Orders[0].Life = 0 }))
		checked(t, "a wrong nonce", api.ErrArg, changed(f, func(f *api.Front) { f.Fence.Next = 0 }))
	}
	for _, n := range []int{65, 70, 200} {
		checked(t, "too many accounts", api.ErrBound, many(n, 1, 1))
	}
	for _, n := range []int{257, 300} {
		checked(t, "too many authorizations", api.ErrBound, many(1, n, 1))
	}
	for _, n := range []int{129, 200} {
		checked(t, "too many orders", api.ErrBound, many(1, 1, n))
	}
	checked(t, "too many of all", api.ErrBound, many(65, 257, 129))
}

func wrongDoors() []func(f *api.Front) {
	l := []func(f *api.Front){
		func(f *api.Front) { f.Fence.Next = -1 },
		func(f *api.Front) { f.Fence.Next = 9 },
		func(f *api.Front) { f.Fence.Open[1].N = 2 },
		func(f *api.Front) { f.Fence.Open[2].Until = -1 },
		func(f *api.Front) { f.Fence = nonces(65) },
		func(f *api.Front) { f.Accounts = f.Accounts[:2] },
		func(f *api.Front) { f.Auths = f.Auths[:8] },
	}
	// Below the orders' serial numbers, or no number.
	for _, serial := range append(noNumbers(), 0, 3, 4) {
		l = append(l, func(f *api.Front) { f.Serial = serial })
	}
	return l
}

func wrongAccounts() []func(f *api.Front) {
	l := []func(f *api.Front){
		func(f *api.Front) { f.Accounts[0], f.Accounts[1] = f.Accounts[1], f.Accounts[0] },
		func(f *api.Front) { f.Accounts[2].Key = f.Accounts[0].Key },
		func(f *api.Front) { f.Accounts[1].Key = f.Accounts[0].Key },
		func(f *api.Front) { f.Accounts = append(f.Accounts, api.Account{Id: 5, Key: 4}) },
		func(f *api.Front) { f.Accounts = append(f.Accounts, api.Account{Key: 4}) },
	}
	for at := range 3 {
		for _, key := range noKeys() {
			l = append(l, func(f *api.Front) { f.Accounts[at].Key = key })
		}
		for _, by := range []int{-1, 1} {
			l = append(l, func(f *api.Front) { f.Accounts[at].Id += by })
		}
	}
	return l
}

func wrongAuths() []func(f *api.Front) {
	l := []func(f *api.Front){
		func(f *api.Front) { f.Auths[7], f.Auths[8] = f.Auths[8], f.Auths[7] },
		func(f *api.Front) { f.Auths[9].Account, f.Auths[9].Token = 4, token(10, 4) },
		func(f *api.Front) { f.Auths[9].Account, f.Auths[9].Token = 0, token(10, 0) },
		func(f *api.Front) { f.Auths[9].Account, f.Auths[9].Token = -1, token(10, -1) },
		func(f *api.Front) { f.Auths[9].Account, f.Auths[9].Token = math.MaxInt, token(10, math.MaxInt) },
		func(f *api.Front) { f.Auths[9].Account = 1 },
		func(f *api.Front) { f.Auths[9].Id, f.Auths[9].Token = 9, token(9, 3) },
		func(f *api.Front) { f.Auths[9].Id, f.Auths[9].Token = 11, token(11, 3) },
		func(f *api.Front) { f.Auths[9].Id = 9 },
	}
	for _, text := range []string{"", "10", "10-", "-3", "10-3 ", "010-3", "10-03", "10_3", "3-10", "a-3"} {
		l = append(l, func(f *api.Front) { f.Auths[9].Token = text })
	}
	for _, name := range []string{"", "*.b", "A.b", "a..b", strings.Repeat("a", 17)} {
		l = append(l, func(f *api.Front) { f.Auths[9].Name = name })
	}
	for _, state := range []int{math.MinInt, -1, 0, api.Issued, 6, math.MaxInt} {
		l = append(l, func(f *api.Front) { f.Auths[9].State = state })
	}
	for _, at := range noNumbers() {
		l = append(l, func(f *api.Front) { f.Auths[0].At, f.Auths[0].Until = at, at+50 })
	}
	for _, by := range []int{-1, 1, -50} {
		l = append(l, func(f *api.Front) { f.Auths[0].Until += by }, func(f *api.Front) { f.Auths[0].At += by })
	}
	// Those that are not Valid have no times: 1, 3, 4 are in the three other states.
	for _, at := range []int{1, 3, 4} {
		l = append(l, func(f *api.Front) { f.Auths[at].At = 1 }, func(f *api.Front) { f.Auths[at].Until = 50 }, func(f *api.Front) { f.Auths[at].At, f.Auths[at].Until = 5, 55 }, func(f *api.Front) { f.Auths[at].State = api.Valid })
	}
	return l
}

func wrongOrders() []func(f *api.Front) {
	l := []func(f *api.Front){
		func(f *api.Front) { f.Orders[6], f.Orders[7] = f.Orders[7], f.Orders[6] },
		func(f *api.Front) { f.Orders[0].Id = 0 },
		func(f *api.Front) { f.Orders[7].Id = 9 },
		func(f *api.Front) { f.Orders[0].Account = 2 },
		func(f *api.Front) { f.Orders[0].Account = 0 },
		func(f *api.Front) { f.Orders[0].Account = 4 },
		func(f *api.Front) { f.Orders[0].Auths = []int{3} },
		func(f *api.Front) { f.Orders[0].Auths = []int{2} },
		func(f *api.Front) { f.Orders[0].Auths = []int{10} },
		func(f *api.Front) { f.Orders[0].Auths = []int{1, 6} },
		func(f *api.Front) { f.Orders[0].Auths = nil },
		func(f *api.Front) { f.Orders[1].Auths = []int{6, 7} },
		func(f *api.Front) { f.Orders[1].Auths = []int{7} },
		func(f *api.Front) { f.Orders[1].Auths = []int{7, 6, 6} },
		func(f *api.Front) { f.Orders[1].Auths = []int{7, 7} },
		// Another one's serial number, also of another account.
		func(f *api.Front) { f.Orders[5].Serial = 5 },
		func(f *api.Front) { f.Orders[3].State, f.Orders[3].Serial = api.Issued, 5 },
	}
	for _, id := range []int{math.MinInt, -1, 0, 12, math.MaxInt} {
		l = append(l, func(f *api.Front) { f.Orders[0].Auths[0] = id }, func(f *api.Front) { f.Orders[7].Auths[1] = id })
	}
	for _, all := range noNames() {
		l = append(l, func(f *api.Front) { f.Orders[0].Names = all })
	}
	// Names with an authorization each, that may not be ordered for all that.
	l = append(l, func(f *api.Front) { f.Orders[0].Names, f.Orders[0].Auths = nil, nil }, func(f *api.Front) { f.Orders[0].Names, f.Orders[0].Auths = []string{"a.b", "a.b"}, []int{1, 6} }, withNine)
	for _, key := range noKeys() {
		l = append(l, func(f *api.Front) { f.Orders[0].Key = key })
	}
	for _, life := range []int{math.MinInt, -1, 0, 1001, math.MaxInt} {
		l = append(l, func(f *api.Front) { f.Orders[0].Life = life })
	}
	for _, state := range []int{math.MinInt, -1, 0, api.Valid, api.Failed, 6, math.MaxInt} {
		l = append(l, func(f *api.Front) { f.Orders[0].State = state }, func(f *api.Front) { f.Orders[0].State, f.Orders[0].Serial = state, 2 })
	}
	for _, serial := range []int{math.MinInt, -1, 0, 8, math.MaxInt} {
		l = append(l, func(f *api.Front) { f.Orders[5].Serial = serial })
	}
	for _, at := range []int{0, 1} {
		l = append(l, func(f *api.Front) { f.Orders[at].Serial = 1 }, func(f *api.Front) { f.Orders[at].Serial = -1 }, func(f *api.Front) { f.Orders[at].State = api.Issued })
	}
	return l
}

// withNine makes an order of nine names, each with its authorization.
func withNine(f *api.Front) {
	o := &f.Orders[0]
	o.Names, o.Auths = nineNames(), nil
	for _, name := range o.Names {
		id := len(f.Auths) + 1
		f.Auths = append(f.Auths, auth(id, 1, name, api.Pending, 0))
		o.Auths = append(o.Auths, id)
	}
}

func TestNonce(t *testing.T) {
	for _, now := range []int{0, 20, 21, 65, 66, 500, api.MaxTime - 20} {
		want := changed(some(), func(f *api.Front) {
			f.Fence.Open = slices.DeleteFunc(f.Fence.Open, func(o api.Nonce) bool { return o.Until < now })
			f.Fence.Open = append(f.Fence.Open, api.Nonce{N: 12, Until: now + 20})
			f.Fence.Next = 13
		})
		if x, n, e := order.Nonce(some(), now); !same(x, want) || n != 12 || e != api.OK {
			t.Errorf("Nonce at %d is %v, %d, %d", now, x, n, e)
		}
	}
	full := changed(some(), func(f *api.Front) { f.Fence = nonces(64) })
	for _, x := range []struct {
		f   api.Front
		now int
		e   api.Errno
	}{{some(), -1, api.ErrArg}, {some(), api.MaxTime - 19, api.ErrArg}, {some(), api.MaxTime + 1, api.ErrArg}, {full, 100, api.ErrBound}, {full, -1, api.ErrArg}, {full, 101, api.OK}} {
		y, n, e := order.Nonce(x.f, x.now)
		if e != x.e || e != api.OK && (n != 0 || !same(y, api.Front{})) {
			t.Errorf("Nonce at %d is %v, %d, %d, not %d", x.now, y, n, e, x.e)
		}
	}
}

// P22.2

// query has something in each field.
func query() api.Query {
	return api.Query{Kind: api.OrderQ, Account: 0x0102, Nonce: 3, Key: 0x8899aabbccddeeff, Names: []string{"a.b", "", "\x00*"}, Life: 0x0405, Id: 0x060708, Sig: api.Sig{E: 9, S: 10}}
}

func bytesOf(q api.Query) []byte {
	var b []byte
	for _, n := range []uint64{uint64(q.Kind), uint64(q.Account), uint64(q.Nonce), q.Key, uint64(q.Life), uint64(q.Id), uint64(len(q.Names))} {
		b = binary.BigEndian.AppendUint64(b, n)
	}
	for _, name := range q.Names {
		b = append(binary.BigEndian.AppendUint64(b, uint64(len(name))), name...)
	}
	return b
}

func TestBytes(t *testing.T) {
	b, e := order.Bytes(query())
	want := "\x00\x00\x00\x00\x00\x00\x00\x02" + "\x00\x00\x00\x00\x00\x00\x01\x02" + "\x00\x00\x00\x00\x00\x00\x00\x03" + "\x88\x99\xaa\xbb\xcc\xdd\xee\xff" + "\x00\x00\x00\x00\x00\x00\x04\x05" + "\x00\x00\x00\x00\x00\x06\x07\x08" +
		"\x00\x00\x00\x00\x00\x00\x00\x03" + "\x00\x00\x00\x00\x00\x00\x00\x03a.b" + "\x00\x00\x00\x00\x00\x00\x00\x00" + "\x00\x00\x00\x00\x00\x00\x00\x02\x00*"
	if string(b) != want || e != api.OK {
		t.Errorf("Bytes is %q, %d, not %q", b, e, want)
	}
	for kind := api.AccountQ; kind <= api.RevokeQ; kind++ {
		for _, n := range []int{0, 1, api.MaxTime - 1, api.MaxTime} {
			for _, q := range []api.Query{{Kind: kind, Account: n}, {Kind: kind, Nonce: n}, {Kind: kind, Life: n}, {Kind: kind, Id: n}, {Kind: kind, Key: math.MaxUint64, Names: slices.Repeat([]string{strings.Repeat("x", 64)}, 8)}, {Kind: kind, Sig: api.Sig{E: 1, S: math.MaxUint64}}} {
				if b, e := order.Bytes(q); !bytes.Equal(b, bytesOf(q)) || e != api.OK {
					t.Errorf("Bytes(%v) is %v, %d", q, b, e)
				}
			}
		}
	}
}

// noBytes change a request so that it has no bytes.
func noBytes() []func(q *api.Query) {
	l := []func(q *api.Query){
		func(q *api.Query) { q.Names = nineNames() },
		func(q *api.Query) { q.Names = make([]string, 9) },
		func(q *api.Query) { q.Names = []string{strings.Repeat("a", 65)} },
		func(q *api.Query) { q.Names = []string{"a", "b", strings.Repeat("a", 65)} },
	}
	for _, kind := range []int{math.MinInt, -1, 0, 6, 7, math.MaxInt} {
		l = append(l, func(q *api.Query) { q.Kind = kind })
	}
	for _, n := range noNumbers() {
		l = append(l, func(q *api.Query) { q.Account = n }, func(q *api.Query) { q.Nonce = n }, func(q *api.Query) { q.Life = n }, func(q *api.Query) { q.Id = n })
	}
	return l
}

func TestBytesOfWhatHasNone(t *testing.T) {
	for k, change := range noBytes() {
		q := query()
		change(&q)
		if b, e := order.Bytes(q); len(b) != 0 || e != api.ErrArg {
			t.Errorf("%d: Bytes(%v) is %v, %d", k, q, b, e)
		}
		for who := range 3 {
			a := asked{f: some(), q: api.Query{Kind: api.LookQ, Account: who + 1, Nonce: 9, Id: 2}, by: []string{"anna", "bert", "cleo"}[who], now: 30}
			change(&a.q)
			a.tells(t, "no bytes", api.ErrArg)
		}
	}
}

// P22.3

// asked is a request of a door: who signs it, and when it is done.
type asked struct {
	f   api.Front
	q   api.Query
	by  string
	now int
}

func (a asked) signed() api.Query {
	if b, e := order.Bytes(a.q); e == api.OK {
		a.q.Sig, _ = sign.Sign(secret(a.by), b)
	}
	return a.q
}

// tells that a request is refused.
func (a asked) tells(t *testing.T, what string, want api.Errno) {
	t.Helper()
	if x, n, e := order.Do(a.f, a.signed(), a.now); e != want || n != 0 || !same(x, api.Front{}) {
		t.Errorf("%s: Do(%v, %d) is %v, %d, %d, not %d", what, a.q, a.now, x, n, e, want)
	}
}

// makes tells that a request is done, and what becomes of the door, but for the nonce that is used.
func (a asked) makes(t *testing.T, what string, wantN int, change func(f *api.Front)) {
	t.Helper()
	want := changed(a.f, func(f *api.Front) {
		f.Fence.Open = slices.DeleteFunc(f.Fence.Open, func(o api.Nonce) bool { return o.N == a.q.Nonce })
		change(f)
	})
	x, n, e := order.Do(a.f, a.signed(), a.now)
	if e != api.OK || n != wantN || !same(x, want) {
		t.Errorf("%s: Do(%v, %d) is %v, %d, %d, not %v, %d", what, a.q, a.now, x, n, e, want, wantN)
	}
	if e := order.Check(x); e != api.OK {
		t.Errorf("%s: Do(%v, %d) tells a door that may not be: %d", what, a.q, a.now, e)
	}
	again := a
	again.f = x
	again.tells(t, what+", again", api.ErrStale)
}

func nothing(*api.Front) {}

func ask(q api.Query, by string) asked { return asked{f: some(), q: q, by: by, now: 30} }

func anOrder(all ...string) api.Query {
	return api.Query{Kind: api.OrderQ, Account: 1, Nonce: 9, Key: 4, Names: all, Life: 90}
}

// each is a request of each kind, that is done.
func each() []asked {
	return []asked{
		ask(api.Query{Kind: api.AccountQ, Nonce: 9, Key: public("dora")}, "dora"),
		ask(anOrder("a.b", "z"), "anna"),
		ask(api.Query{Kind: api.LookQ, Account: 1, Nonce: 9, Id: 2}, "anna"),
		ask(api.Query{Kind: api.IssueQ, Account: 1, Nonce: 9, Id: 1}, "anna"),
		ask(api.Query{Kind: api.RevokeQ, Account: 1, Nonce: 9, Id: 3}, "anna"),
	}
}

func TestEachIsDone(t *testing.T) {
	for _, a := range each() {
		if _, _, e := order.Do(a.f, a.signed(), a.now); e != api.OK {
			t.Errorf("Do(%v) is %d", a.q, e)
		}
		a.q.Names = append([]string{}, a.q.Names...)
		if _, _, e := order.Do(a.f, a.signed(), a.now); e != api.OK {
			t.Errorf("Do(%v) is %d", a.q, e)
		}
	}
}

func TestFieldsThatAKindHasNot(t *testing.T) {
	account, key, all, life, id := func(q *api.Query) { q.Account = 1 }, func(q *api.Query) { q.Key = 4 }, func(q *api.Query) { q.Names = []string{""} }, func(q *api.Query) { q.Life = 1 }, func(q *api.Query) { q.Id = 1 }
	of := [][]func(q *api.Query){{account, all, life, id}, {id}, {key, all, life}, {key, all, life}, {key, all, life}}
	for k, a := range each() {
		for _, change := range of[k] {
			wrong := a
			change(&wrong.q)
			wrong.tells(t, "a field more", api.ErrArg)
			wrong.q.Nonce, wrong.by = 77, "nobody"
			wrong.tells(t, "a field more, of a stale one", api.ErrArg)
		}
		for _, now := range noNumbers() {
			wrong := a
			wrong.now = now
			wrong.tells(t, "no time", api.ErrArg)
		}
	}
}

func TestWhatMayNotBeOrdered(t *testing.T) {
	stale := func(q api.Query) {
		t.Helper()
		ask(q, "anna").tells(t, "wrong", api.ErrArg)
		q.Nonce = 77
		ask(q, "anna").tells(t, "wrong, and stale", api.ErrArg)
	}
	for _, all := range noNames() {
		stale(anOrder(all...))
	}
	for _, key := range noKeys() {
		q := anOrder("a.b")
		q.Key = key
		stale(q)
	}
	for _, life := range []int{0, 1001, api.MaxTime} {
		q := anOrder("a.b")
		q.Life = life
		stale(q)
	}
}

func TestNonceOfARequest(t *testing.T) {
	for _, a := range each() {
		for _, n := range []int{0, 1, 3, 8, 10, 11, 12, api.MaxTime} {
			wrong := a
			wrong.q.Nonce = n
			wrong.tells(t, "a nonce that is none of its", api.ErrStale)
			// Ahead of who it is, and what is wrong with what is asked.
			wrong.q.Account, wrong.by = a.q.Account+60, "nobody"
			if a.q.Kind != api.AccountQ {
				wrong.tells(t, "a nonce that is none of its", api.ErrStale)
			}
		}
		for _, x := range []struct {
			n, now int
			e      api.Errno
		}{{5, 20, api.OK}, {5, 21, api.ErrStale}, {2, 59, api.OK}, {2, 65, api.OK}, {2, 66, api.ErrStale}, {9, 0, api.OK}} {
			a.q.Nonce, a.now = x.n, x.now
			_, _, e := order.Do(a.f, a.signed(), a.now)
			if a.q.Kind == api.IssueQ && x.now > 60 && x.e == api.OK {
				x.e = api.ErrState
			}
			if e != x.e {
				t.Errorf("Do(%v, %d) is %d, not %d", a.q, a.now, e, x.e)
			}
		}
	}
}

func TestWhoAsks(t *testing.T) {
	for _, a := range each() {
		for _, by := range []string{"bert", "cleo", "nobody"} {
			wrong := a
			wrong.by = by
			wrong.tells(t, "signed by another one", api.ErrSig)
		}
		if a.q.Kind == api.AccountQ {
			continue
		}
		for _, id := range []int{0, 4, 5, 64, api.MaxTime} {
			wrong := a
			wrong.q.Account = id
			wrong.tells(t, "no account", api.ErrAccount)
			wrong.by = "nobody"
			wrong.tells(t, "no account", api.ErrAccount)
		}
		wrong := a
		wrong.q.Account = 2
		wrong.tells(t, "another account", api.ErrSig)
	}
	for _, key := range noKeys() {
		a := ask(api.Query{Kind: api.AccountQ, Nonce: 9, Key: key}, "anna")
		a.tells(t, "no key", api.ErrArg)
		a.q.Nonce = 77
		a.tells(t, "no key, and stale", api.ErrStale)
	}
}

func TestSignatureOfARequest(t *testing.T) {
	for _, a := range each() {
		signed := a.signed()
		changes := []func(q *api.Query){
			func(q *api.Query) { q.Sig.E ^= 1 }, func(q *api.Query) { q.Sig.S ^= 1 }, func(q *api.Query) { q.Sig.S += api.R }, func(q *api.Query) { q.Sig = api.Sig{} },
			func(q *api.Query) { q.Nonce = 2 },
		}
		switch a.q.Kind {
		case api.AccountQ:
			changes = append(changes, func(q *api.Query) { q.Key = public("bert") })
		case api.OrderQ:
			changes = append(changes, func(q *api.Query) { q.Key = 16 }, func(q *api.Query) { q.Life++ }, func(q *api.Query) { q.Names = []string{"a.b"} }, func(q *api.Query) { q.Names = []string{"a.b", "y"} }, func(q *api.Query) { q.Names = []string{"z", "a.b"} })
		default:
			changes = append(changes, func(q *api.Query) { q.Id++ }, func(q *api.Query) { q.Kind = api.LookQ + (q.Kind-api.LookQ+1)%3 })
		}
		for k, change := range changes {
			q := signed
			change(&q)
			if x, n, e := order.Do(a.f, q, a.now); e != api.ErrSig || n != 0 || !same(x, api.Front{}) {
				t.Errorf("%d: Do(%v, %d) is %v, %d, %d", k, q, a.now, x, n, e)
			}
		}
	}
}

func TestDoOfAccounts(t *testing.T) {
	for _, now := range []int{0, 30, api.MaxTime} {
		a := ask(api.Query{Kind: api.AccountQ, Nonce: 9, Key: public("dora")}, "dora")
		a.now = now
		a.makes(t, "a new account", 4, func(f *api.Front) { f.Accounts = append(f.Accounts, api.Account{Id: 4, Key: public("dora")}) })
	}
	for k, who := range []string{"anna", "bert", "cleo"} {
		ask(api.Query{Kind: api.AccountQ, Nonce: 9, Key: public(who)}, who).makes(t, "an account that there is", k+1, nothing)
	}
	for _, number := range []int{0, 1, 62, 63} {
		a := asked{f: many(number, 0, 0), q: api.Query{Kind: api.AccountQ, Key: public("dora")}, by: "dora"}
		a.makes(t, "a new account", number+1, func(f *api.Front) {
			f.Accounts = append(f.Accounts, api.Account{Id: number + 1, Key: public("dora")})
		})
	}
	full := asked{f: many(64, 0, 0), q: api.Query{Kind: api.AccountQ, Key: public("dora")}, by: "dora"}
	full.tells(t, "one more than 64", api.ErrBound)
	for _, k := range []int{0, 40, 63} {
		full.q.Key, full.by = public(strconv.Itoa(k)), strconv.Itoa(k)
		full.makes(t, "one of 64", k+1, nothing)
	}
	full.by = "dora"
	full.tells(t, "one of 64, signed by another one", api.ErrSig)
}

func TestDoOfOrders(t *testing.T) {
	// The authorizations of anna for a.b hold until 60 and until 70, that for c.b until 90; bert's are not hers.
	for _, x := range []struct {
		now   int
		names []string
		auths []int
		added []string
	}{
		{30, []string{"a.b"}, []int{1}, nil}, {0, []string{"a.b"}, []int{1}, nil}, {59, []string{"a.b"}, []int{1}, nil},
		{60, []string{"a.b"}, []int{6}, nil}, {69, []string{"a.b"}, []int{6}, nil}, {70, []string{"a.b"}, []int{12}, []string{"a.b"}},
		{30, []string{"c.b"}, []int{7}, nil}, {90, []string{"c.b"}, []int{12}, []string{"c.b"}}, {89, []string{"c.b"}, []int{7}, nil},
		{30, []string{"d.b"}, []int{12}, []string{"d.b"}}, {30, []string{"e.b"}, []int{12}, []string{"e.b"}},
		{30, []string{"y"}, []int{12}, []string{"y"}}, {30, []string{"x", "a.b", "y", "c.b", "q.a.b"}, []int{12, 1, 13, 7, 14}, []string{"x", "y", "q.a.b"}},
		{80, []string{"a.b", "c.b"}, []int{12, 7}, []string{"a.b"}}, {65, []string{"c.b", "a.b"}, []int{7, 6}, nil},
		{30, nineNames()[:8], []int{12, 13, 14, 15, 16, 17, 18, 19}, nineNames()[:8]},
	} {
		a := ask(anOrder(x.names...), "anna")
		a.now = x.now
		a.makes(t, "an order", 9, func(f *api.Front) {
			for k, name := range x.added {
				f.Auths = append(f.Auths, auth(12+k, 1, name, api.Pending, 0))
			}
			f.Orders = append(f.Orders, api.Order{Id: 9, Account: 1, Names: x.names, Key: 4, Life: 90, Auths: x.auths, State: api.Pending})
		})
	}
}

func TestDoOfAnothersOrder(t *testing.T) {
	for _, life := range []int{1, 2, 999, 1000} {
		for _, key := range []uint64{1, 16, public("cleo")} {
			a := ask(api.Query{Kind: api.OrderQ, Account: 3, Nonce: 2, Key: key, Names: []string{"y", "a.b"}, Life: life}, "cleo")
			a.makes(t, "an order", 9, func(f *api.Front) {
				f.Auths = append(f.Auths, auth(12, 3, "y", api.Pending, 0), auth(13, 3, "a.b", api.Pending, 0))
				f.Orders = append(f.Orders, api.Order{Id: 9, Account: 3, Names: []string{"y", "a.b"}, Key: key, Life: life, Auths: []int{12, 13}, State: api.Pending})
			})
		}
	}
}

func TestDoOfOrdersAtTheBounds(t *testing.T) {
	for _, x := range []struct {
		auths, orders int
		names         []string
		e             api.Errno
	}{
		{255, 5, []string{"new"}, api.OK}, {256, 5, []string{"new"}, api.ErrBound}, {256, 5, []string{"n0"}, api.OK}, {256, 5, []string{"n1", "n0"}, api.OK}, {256, 5, []string{"n1", "new"}, api.ErrBound}, {256, 5, []string{"n2"}, api.ErrBound},
		{254, 5, []string{"new", "n0", "newer"}, api.OK}, {255, 5, []string{"new", "n0", "newer"}, api.ErrBound}, {248, 5, nineNames()[:8], api.OK}, {249, 5, nineNames()[:8], api.ErrBound},
		{3, 127, []string{"n0"}, api.OK}, {3, 128, []string{"n0"}, api.ErrBound}, {3, 127, []string{"new"}, api.OK}, {3, 128, []string{"new"}, api.ErrBound}, {256, 128, []string{"new"}, api.ErrBound}, {255, 127, []string{"new"}, api.OK},
	} {
		q := anOrder(x.names...)
		q.Nonce = 0
		a := asked{f: many(1, x.auths, x.orders), q: q, by: "0", now: 30}
		if x.e != api.OK {
			a.tells(t, "too many", x.e)
			continue
		}
		a.makes(t, "as many as may be", x.orders+1, func(f *api.Front) {
			o := api.Order{Id: x.orders + 1, Account: 1, Names: x.names, Key: 4, Life: 90, State: api.Pending}
			for _, name := range x.names {
				at := slices.IndexFunc(f.Auths[:2], func(a api.Auth) bool { return a.Name == name })
				if at < 0 {
					at = len(f.Auths)
					f.Auths = append(f.Auths, auth(at+1, 1, name, api.Pending, 0))
				}
				o.Auths = append(o.Auths, at+1)
			}
			f.Orders = append(f.Orders, o)
		})
	}
}

// who asks with each account, who has signed it, for each number, at some times.
func who(kind int, do func(a asked)) {
	for k, by := range []string{"anna", "bert", "cleo"} {
		for _, now := range []int{0, 20, 50, 51, 60, 61, 70, 71, 80, 81, 90, 91, api.MaxTime} {
			for _, id := range []int{0, 1, 2, 3, 4, 5, 6, 7, 8, 9, 10, 11, 12, 13, 300, api.MaxTime} {
				do(asked{f: some(), q: api.Query{Kind: kind, Account: k + 1, Nonce: 9, Id: id}, by: by, now: now})
			}
		}
	}
}

func TestDoOfLooks(t *testing.T) {
	who(api.LookQ, func(a asked) {
		at := a.q.Id - 1
		if at < 0 || at >= 11 || a.f.Auths[at].Account != a.q.Account {
			a.tells(t, "none of its authorizations", api.ErrNone)
		} else if slices.Contains([]int{2, 5, 8, 10}, a.q.Id) {
			a.makes(t, "a look", a.q.Id, func(f *api.Front) { f.Auths[at].State = api.Asked })
		} else {
			a.tells(t, "an authorization in another state", api.ErrState)
		}
	})
}

func TestDoOfIssues(t *testing.T) {
	// Until when all authorizations of an order hold that is Pending (of the third one, one never does).
	until := map[int]int{1: 60, 4: 50}
	who(api.IssueQ, func(a asked) {
		at := a.q.Id - 1
		if at < 0 || at >= 8 || a.f.Orders[at].Account != a.q.Account {
			a.tells(t, "none of its orders", api.ErrNone)
		} else if last, may := until[a.q.Id]; may && a.now <= last {
			a.makes(t, "an issue", a.q.Id, func(f *api.Front) { f.Orders[at].State = api.Asked })
		} else {
			a.tells(t, "an order that may not be issued", api.ErrState)
		}
	})
	for _, state := range []int{api.Pending, api.Asked, api.Failed} {
		a := ask(api.Query{Kind: api.IssueQ, Account: 1, Nonce: 9, Id: 1}, "anna")
		a.f.Auths[0] = auth(1, 1, "a.b", state, 0)
		a.tells(t, "an order with an authorization that is not valid", api.ErrState)
	}
	for _, at := range []int{0, 1} {
		a := ask(api.Query{Kind: api.IssueQ, Account: 2, Nonce: 9, Id: 4}, "bert")
		a.f.Auths[a.f.Orders[3].Auths[at]-1] = auth(a.f.Orders[3].Auths[at], 2, a.f.Orders[3].Names[at], api.Failed, 0)
		a.tells(t, "an order with one of two authorizations that is not valid", api.ErrState)
	}
}

func TestDoOfRevokes(t *testing.T) {
	who(api.RevokeQ, func(a asked) {
		if a.q.Account == 2 && a.q.Id == 5 || a.q.Account == 1 && a.q.Id == 3 {
			a.makes(t, "a revocation", a.q.Id, nothing)
		} else {
			a.tells(t, "no serial number of its", api.ErrNone)
		}
	})
}

// TestOrderOfErrors holds each error against each one behind it.
func TestOrderOfErrors(t *testing.T) {
	faults := []struct {
		what  string
		e     api.Errno
		fault func(a *asked)
	}{
		{"too many accounts", api.ErrBound, func(a *asked) {
			for k := len(a.f.Accounts); k < 65; k++ {
				a.f.Accounts = append(a.f.Accounts, api.Account{Id: k + 1, Key: public(strconv.Itoa(k))})
			}
		}},
		{"no time", api.ErrArg, func(a *asked) { a.now = -1 }},
		{"no bytes", api.ErrArg, func(a *asked) { a.q.Id = -1 }},
		{"a field more", api.ErrArg, func(a *asked) { a.q.Life = 1 }},
		{"stale", api.ErrStale, func(a *asked) { a.q.Nonce = 7 }},
		{"no account", api.ErrAccount, func(a *asked) { a.q.Account = 70 }},
		{"another signature", api.ErrSig, func(a *asked) { a.by = "dora" }},
	}
	for _, id := range []int{4, 40} {
		last := api.ErrState
		if id == 40 {
			last = api.ErrNone
		}
		for k, first := range faults {
			for _, second := range faults[k:] {
				a := ask(api.Query{Kind: api.LookQ, Account: 1, Nonce: 9, Id: id}, "anna")
				first.fault(&a)
				second.fault(&a)
				a.tells(t, first.what+", "+second.what, first.e)
			}
		}
		ask(api.Query{Kind: api.LookQ, Account: 1, Nonce: 9, Id: id}, "anna").tells(t, "no other fault", last)
	}
}

// P22.4

func saw(t *testing.T, f api.Front, id int, ok bool, now int, want api.Front, wantE api.Errno) {
	t.Helper()
	if x, e := order.Saw(f, id, ok, now); e != wantE || !same(x, want) {
		t.Errorf("Saw(%d, %t, %d) is %v, %d, not %v, %d", id, ok, now, x, e, want, wantE)
	}
}

func TestSaw(t *testing.T) {
	for _, now := range []int{0, 1, 7, 30, api.MaxTime - 51, api.MaxTime - 50} {
		for id := -2; id < 20; id++ {
			if id == 4 || id == 11 {
				saw(t, some(), id, true, now, changed(some(), func(f *api.Front) {
					f.Auths[id-1].State, f.Auths[id-1].At, f.Auths[id-1].Until = api.Valid, now, now+50
				}), api.OK)
				saw(t, some(), id, false, now, changed(some(), func(f *api.Front) { f.Auths[id-1].State = api.Failed }), api.OK)
				continue
			}
			e := api.ErrState
			if id < 1 || id > 11 {
				e = api.ErrNone
			}
			saw(t, some(), id, true, now, api.Front{}, e)
			saw(t, some(), id, false, now, api.Front{}, e)
		}
		saw(t, some(), math.MinInt, true, now, api.Front{}, api.ErrNone)
		saw(t, some(), math.MaxInt, true, now, api.Front{}, api.ErrNone)
	}
	for _, now := range append(noNumbers(), api.MaxTime-49, api.MaxTime) {
		for _, id := range []int{0, 1, 4, 12} {
			saw(t, some(), id, true, now, api.Front{}, api.ErrArg)
			saw(t, some(), id, false, now, api.Front{}, api.ErrArg)
		}
	}
}

// P22.5

func sameWish(a, b api.Wish) bool {
	return a.Account == b.Account && slices.Equal(a.Names, b.Names) && a.Key == b.Key && a.Life == b.Life
}

func wished(t *testing.T, f api.Front, id, now int, want api.Wish, wantE api.Errno) {
	t.Helper()
	if w, e := order.Wish(f, id, now); e != wantE || !sameWish(w, want) {
		t.Errorf("Wish(%d, %d) is %v, %d, not %v, %d", id, now, w, e, want, wantE)
	}
}

func TestWish(t *testing.T) {
	for _, now := range []int{0, 20, 40, 49, 50, 51, 60, 69, 70, 71, 80, 81, 90, 91, api.MaxTime} {
		for id := -2; id < 12; id++ {
			switch {
			case id < 1 || id > 8:
				wished(t, some(), id, now, api.Wish{}, api.ErrNone)
			case id == 2 && now <= 70:
				wished(t, some(), id, now, api.Wish{Account: 1, Names: []string{"c.b", "a.b"}, Key: 16, Life: 1}, api.OK)
			case id == 8 && now <= 50:
				wished(t, some(), id, now, api.Wish{Account: 2, Names: []string{"y", "a.b"}, Key: 4, Life: 7}, api.OK)
			default:
				wished(t, some(), id, now, api.Wish{}, api.ErrState)
			}
		}
	}
	for _, now := range noNumbers() {
		for _, id := range []int{-1, 0, 1, 2, 9} {
			wished(t, some(), id, now, api.Wish{}, api.ErrArg)
		}
	}
	// Of a second authorization, that does not hold any longer, or was refused.
	for _, at := range []int{5, 6} {
		for _, state := range []int{api.Pending, api.Asked, api.Failed} {
			f := changed(some(), func(f *api.Front) { f.Auths[at] = auth(at+1, 1, f.Auths[at].Name, state, 0) })
			wished(t, f, 2, 30, api.Wish{}, api.ErrState)
		}
	}
}

func done(t *testing.T, f api.Front, id, serial int, want api.Front, wantE api.Errno) {
	t.Helper()
	if x, e := order.Done(f, id, serial); e != wantE || !same(x, want) {
		t.Errorf("Done(%d, %d) is %v, %d, not %v, %d", id, serial, x, e, want, wantE)
	}
}

func TestDone(t *testing.T) {
	for id := -2; id < 12; id++ {
		for _, serial := range []int{8, 9, 100, api.MaxTime - 1, api.MaxTime} {
			switch {
			case id < 1 || id > 8:
				done(t, some(), id, serial, api.Front{}, api.ErrNone)
			case id == 2 || id == 7 || id == 8:
				done(t, some(), id, serial, changed(some(), func(f *api.Front) {
					f.Orders[id-1].State, f.Orders[id-1].Serial, f.Serial = api.Issued, serial, serial
				}), api.OK)
			default:
				done(t, some(), id, serial, api.Front{}, api.ErrState)
			}
		}
		for _, serial := range []int{math.MinInt, -1, 0, 1, 5, 6, 7, api.MaxTime + 1, math.MaxInt} {
			switch {
			case id < 1 || id > 8:
				done(t, some(), id, serial, api.Front{}, api.ErrNone)
			case id == 2 || id == 7 || id == 8:
				done(t, some(), id, serial, api.Front{}, api.ErrArg)
			default:
				done(t, some(), id, serial, api.Front{}, api.ErrState)
			}
		}
	}
	last := changed(some(), func(f *api.Front) { f.Serial = api.MaxTime })
	done(t, last, 2, api.MaxTime, api.Front{}, api.ErrArg)
	done(t, last, 2, api.MaxTime+1, api.Front{}, api.ErrArg)
	first := changed(some(), func(f *api.Front) {
		f.Serial, f.Orders = 0, f.Orders[:2]
	})
	done(t, first, 2, 1, changed(first, func(f *api.Front) { f.Serial, f.Orders[1].State, f.Orders[1].Serial = 1, api.Issued, 1 }), api.OK)
	done(t, first, 2, 0, api.Front{}, api.ErrArg)
}

// P22.6

// seen is when it was last seen that an account controls a name.
type seen struct {
	account int
	name    string
}

// walk is a run of requests: what the door knows, what was seen, and what was done.
type walk struct {
	t      *testing.T
	f      api.Front
	now    int
	step   int
	when   map[seen]int
	wishes int
	done   []api.Query
}

// next is a number of the run, below some.
func (w *walk) next(below int) int {
	w.step++
	x := uint64(w.step) * 0x9e3779b97f4a7c15
	x ^= x >> 29
	x *= 0xbf58476d1ce4e5b9
	return int(x>>33) % below
}

func (w *walk) do(q api.Query, by string) int {
	f, n, e := order.Nonce(w.f, w.now)
	if e != api.OK {
		w.t.Fatalf("Nonce tells %d", e)
	}
	q.Nonce = n
	a := asked{f: f, q: q, by: by, now: w.now}
	signed := a.signed()
	x, n, e := order.Do(f, signed, w.now)
	if e != api.OK {
		return 0
	}
	w.keepsOthers(f, x, q.Account)
	w.f = x
	w.done = append(w.done, signed)
	for _, old := range w.done {
		if _, _, e := order.Do(w.f, old, w.now); e != api.ErrStale {
			w.t.Fatalf("Do of what was done tells %d", e)
		}
	}
	return n
}

// keepsOthers asks whether all that is another account's is as it was.
func (w *walk) keepsOthers(f, x api.Front, account int) {
	of := func(f api.Front) ([]api.Auth, []api.Order) {
		auths := slices.DeleteFunc(slices.Clone(f.Auths), func(a api.Auth) bool { return a.Account == account })
		orders := slices.DeleteFunc(slices.Clone(f.Orders), func(o api.Order) bool { return o.Account == account })
		return auths, orders
	}
	auths, orders := of(f)
	nowAuths, nowOrders := of(x)
	if !slices.Equal(auths, nowAuths) || !slices.EqualFunc(orders, nowOrders, sameOrder) || !slices.Equal(x.Accounts[:len(f.Accounts)], f.Accounts) {
		w.t.Fatalf("what the account %d asks changes what is another one's", account)
	}
}

func (w *walk) look(id int) {
	ok := w.next(4) > 0
	x, e := order.Saw(w.f, id, ok, w.now)
	if e != api.OK {
		w.t.Fatalf("Saw(%d) tells %d", id, e)
	}
	w.f = x
	if ok {
		w.when[seen{x.Auths[id-1].Account, x.Auths[id-1].Name}] = w.now
	}
}

// issue asks at some times what the order wants.
func (w *walk) issue(id int) {
	for now := w.now; now < w.now+60; now++ {
		wish, e := order.Wish(w.f, id, now)
		if e != api.OK {
			continue
		}
		w.wishes++
		for _, name := range wish.Names {
			if at, was := w.when[seen{wish.Account, name}]; !was || now-at > 50 {
				w.t.Fatalf("at %d a wish for %s, which was not seen since %d", now, name, now-50)
			}
		}
	}
	var e api.Errno
	if w.f, e = order.Done(w.f, id, w.f.Serial+1); e != api.OK {
		w.t.Fatalf("Done tells %d", e)
	}
}

func TestRun(t *testing.T) {
	w := walk{t: t, f: order.New(), when: make(map[seen]int)}
	people := []string{"anna", "bert", "cleo"}
	for _, by := range people {
		w.do(api.Query{Kind: api.AccountQ, Key: public(by)}, by)
	}
	all := []string{"a.b", "c.b", "d"}
	for range 400 {
		w.now += w.next(4)
		account := 1 + w.next(3)
		by := people[account-1]
		switch w.next(9) {
		case 0, 1:
			from := w.next(3)
			w.do(api.Query{Kind: api.OrderQ, Account: account, Names: all[from : from+1+w.next(3-from)], Key: 4, Life: 9}, by)
		default:
			if id := w.do(api.Query{Kind: api.LookQ, Account: account, Id: 1 + w.next(len(w.f.Auths)+2)}, by); id > 0 {
				w.look(id)
			}
		case 2:
			for id := range len(w.f.Orders) {
				if w.do(api.Query{Kind: api.IssueQ, Account: account, Id: id + 1}, by) > 0 {
					w.issue(id + 1)
				}
			}
		case 3:
			w.do(api.Query{Kind: api.RevokeQ, Account: account, Id: w.next(w.f.Serial + 2)}, by)
		}
		if e := order.Check(w.f); e != api.OK {
			t.Fatalf("the door may not be: %d", e)
		}
	}
	if w.wishes < 300 {
		t.Errorf("only %d wishes were told", w.wishes)
	}
}

// R2

// roomy is a door whose lists have room behind them.
func roomy() api.Front {
	f := some()
	f.Fence.Open = slices.Grow(f.Fence.Open, 9)
	f.Accounts, f.Auths, f.Orders = slices.Grow(f.Accounts, 9), slices.Grow(f.Auths, 9), slices.Grow(f.Orders, 9)
	for k, o := range f.Orders {
		f.Orders[k].Names, f.Orders[k].Auths = slices.Grow(o.Names, 9), slices.Grow(o.Auths, 9)
	}
	return f
}

// spoil writes into all of a door's lists, and behind them.
func spoil(f api.Front) {
	for _, o := range f.Orders[:cap(f.Orders)] {
		clear(o.Names[:cap(o.Names)])
		clear(o.Auths[:cap(o.Auths)])
	}
	clear(f.Fence.Open[:cap(f.Fence.Open)])
	clear(f.Accounts[:cap(f.Accounts)])
	clear(f.Auths[:cap(f.Auths)])
	clear(f.Orders[:cap(f.Orders)])
}

// calls are all that tell a door.
func calls() []func(f api.Front) api.Front {
	l := []func(f api.Front) api.Front{
		func(f api.Front) api.Front { x, _, _ := order.Nonce(f, 30); return x },
		func(f api.Front) api.Front { x, _ := order.Saw(f, 4, true, 30); return x },
		func(f api.Front) api.Front { x, _ := order.Saw(f, 4, false, 30); return x },
		func(f api.Front) api.Front { x, _ := order.Done(f, 2, 30); return x },
	}
	for _, a := range each() {
		q := a.signed()
		l = append(l, func(f api.Front) api.Front { x, _, _ := order.Do(f, q, 30); return x })
	}
	return l
}

func TestNothingIsChangedOrShared(t *testing.T) {
	for k, call := range calls() {
		f := roomy()
		x := call(f)
		was := copied(x)
		for _, o := range f.Orders[:cap(f.Orders)][len(f.Orders):] {
			if !sameOrder(o, api.Order{}) {
				t.Errorf("call %d writes behind what is handed in", k)
			}
		}
		if !same(f, some()) || f.Auths[:12][11] != (api.Auth{}) || f.Accounts[:4][3] != (api.Account{}) || f.Fence.Open[:4][3] != (api.Nonce{}) {
			t.Errorf("call %d changes what is handed in", k)
		}
		spoil(f)
		if len(x.Orders) == 0 || !same(x, was) {
			t.Errorf("what call %d has told changes with what was handed in", k)
		}
		f = roomy()
		x = call(f)
		spoil(x)
		if !same(f, some()) {
			t.Errorf("what was handed in changes with what call %d has told", k)
		}
	}
	q := each()[1].signed()
	x, _, _ := order.Do(some(), q, 30)
	q.Names[0] = "zz"
	if x.Orders[8].Names[0] != "a.b" {
		t.Errorf("an order changes with the request")
	}
	x.Orders[8].Names[1] = "yy"
	if q.Names[1] != "z" {
		t.Errorf("the request changes with an order")
	}
	f := some()
	w, _ := order.Wish(f, 2, 30)
	w.Names[0] = "zz"
	if !same(f, some()) {
		t.Errorf("a door changes with a wish")
	}
	w, _ = order.Wish(f, 2, 30)
	f.Orders[1].Names[0] = "zz"
	if w.Names[0] != "c.b" {
		t.Errorf("a wish changes with the door")
	}
}

// The chapter's example

func TestExample(t *testing.T) {
	f := order.New()
	do := func(now int, q api.Query) int {
		t.Helper()
		var e api.Errno
		if f, q.Nonce, e = order.Nonce(f, now); e != api.OK {
			t.Fatal(e)
		}
		a := asked{f: f, q: q, by: "anna", now: now}
		x, n, e := order.Do(f, a.signed(), now)
		if e != api.OK {
			t.Fatal(e)
		}
		if _, _, e := order.Do(x, a.signed(), now); e != api.ErrStale {
			t.Errorf("the same request again is %d", e)
		}
		f = x
		return n
	}
	if n := do(1, api.Query{Kind: api.AccountQ, Key: public("anna")}); n != 1 {
		t.Errorf("the account is %d", n)
	}
	if n := do(2, api.Query{Kind: api.OrderQ, Account: 1, Names: []string{"a.b"}, Key: 4, Life: 90}); n != 1 {
		t.Errorf("the order is %d", n)
	}
	if !slices.Equal(f.Auths, []api.Auth{{Id: 1, Account: 1, Name: "a.b", Token: "1-1", State: api.Pending}}) {
		t.Errorf("the authorizations are %v", f.Auths)
	}
	do(3, api.Query{Kind: api.LookQ, Account: 1, Id: 1})
	x, e := order.Saw(f, 1, true, 7)
	if e != api.OK {
		t.Fatal(e)
	}
	f = x
	late := asked{f: f, q: api.Query{Kind: api.IssueQ, Account: 1, Id: 1}, by: "anna", now: 58}
	late.f, late.q.Nonce, _ = order.Nonce(f, 58)
	late.tells(t, "too late", api.ErrState)
	if n := do(57, api.Query{Kind: api.IssueQ, Account: 1, Id: 1}); n != 1 {
		t.Errorf("the order is %d", n)
	}
	wished(t, f, 1, 57, api.Wish{Account: 1, Names: []string{"a.b"}, Key: 4, Life: 90}, api.OK)
	wished(t, f, 1, 58, api.Wish{}, api.ErrState)
}
