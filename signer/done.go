package signer

import (
	"bytes"
	"slices"
	"strconv"

	"greatseal/api"
	"greatseal/cert"
	"greatseal/hash"
	"greatseal/wal"
)

const (
	numberBytes = 8
	doneBytes   = 32
)

// failure is what the store tells, as an error.
type failure struct {
	told api.Errno
}

// unwritten is what a signer gives up by: it must not sign what its store does not have.
type unwritten struct {
	failure
}

func (f failure) Error() string { return "error " + strconv.Itoa(int(f.told)) }

// remember is a signer that has done something honestly; whoever calls it has made its lists.
func remember(s api.Signer, session int, body []byte, keys []api.Key, t api.Table) (api.Signer, api.Errno) {
	if e := May(body, keys, t); e != api.OK {
		return api.Signer{}, e
	}
	// What it may sign is a body.
	c, _ := cert.GetBody(body)
	d := api.Done{Session: session, Serial: c.Serial, Body: hash.Sum(body)}
	if slices.Contains(s.Done, d) {
		return s, api.OK
	}
	if slices.ContainsFunc(s.Done, contradicting(d)) {
		return api.Signer{}, api.ErrTwice
	}
	store, e := written(s.Store, d)
	if e != api.OK {
		return api.Signer{}, e
	}
	s.Done, s.Store = append(s.Done, d), store
	return s, api.OK
}

func contradicting(d api.Done) func(other api.Done) bool {
	return func(other api.Done) bool {
		return other.Session == d.Session && other != d || other.Serial == d.Serial && other.Body != d.Body
	}
}

// written is a store in which something is safe.
func written(s api.Store, d api.Done) (x api.Store, e api.Errno) {
	defer func() {
		switch thrown := recover().(type) {
		case nil:
		case unwritten:
			e = thrown.told
		default:
			panic(thrown)
		}
	}()
	return must(wal.Sync(must(wal.Append(s, bytesOf(d))))), api.OK
}

func must(s api.Store, e api.Errno) api.Store {
	if e != api.OK {
		panic(unwritten{failure{told: e}})
	}
	return s
}

// toldBy is what the frames of a store tell, and whether they tell it.
func toldBy(s api.Store) ([]api.Done, bool) {
	frames, _ := wal.Read(s)
	var all []api.Done
	for _, b := range frames {
		d, is := doneOf(b)
		if !is || slices.ContainsFunc(all, contradicting(d)) {
			return nil, false
		}
		all = append(all, d)
	}
	return all, true
}

func bytesOf(d api.Done) []byte {
	b := make([]byte, 0, doneBytes)
	for _, n := range []int{d.Session, d.Serial} {
		for k := range numberBytes {
			b = append(b, byte(n>>(8*(numberBytes-1-k))))
		}
	}
	return append(b, hash.Bytes(d.Body)...)
}

// doneOf is what is done, whose bytes these are, if they are any's.
func doneOf(b []byte) (api.Done, bool) {
	if len(b) != doneBytes {
		return api.Done{}, false
	}
	session, serial := numberOf(b[:numberBytes]), numberOf(b[numberBytes:2*numberBytes])
	body, e := hash.Of(b[2*numberBytes:])
	if !isNumber(session) || !isNumber(serial) || e != api.OK {
		return api.Done{}, false
	}
	return api.Done{Session: session, Serial: serial, Body: body}, true
}

// numberOf goes round: what has gone round is below 0, and so no number.
func numberOf(b []byte) int {
	n := 0
	for _, x := range b {
		n = n<<8 | int(x)
	}
	return n
}

// copyOf is a signer of its own, whose lists whoever handed it in has not.
func copyOf(s api.Signer) api.Signer {
	s.Done = slices.Clone(s.Done)
	s.Store = api.Store{Safe: bytes.Clone(s.Store.Safe), Open: bytes.Clone(s.Store.Open)}
	return s
}
