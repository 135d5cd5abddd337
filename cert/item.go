package cert

import (
	"greatseal/api"
	"greatseal/der"
)

const (
	itemsOfPre     = 10
	itemsOfPromise = 6
	// A body is a pre and promises, a whole is a body and a signature, which is two numbers.
	itemsOfPair = 2
)

// item is one that may be a certificate's.
type item api.Item

// wrong is thrown where an item is not what it has to be.
type wrong struct{}

func put(c api.Cert, itemOf func(c api.Cert) api.Item) ([]byte, api.Errno) {
	if e := Check(c); e != api.OK {
		return nil, e
	}
	return der.Put(itemOf(c))
}

func get(b []byte, read func(x item) api.Cert) (c api.Cert, e api.Errno) {
	x, next, e := der.Get(b, 0)
	if e != api.OK {
		return api.Cert{}, e
	}
	if next != len(b) {
		return api.Cert{}, api.ErrForm
	}
	defer func() {
		if _, thrown := recover().(wrong); thrown {
			c, e = api.Cert{}, api.ErrForm
		}
	}()
	c = read(item(x))
	if Check(c) != api.OK {
		throw()
	}
	return c, api.OK
}

func throw() { panic(wrong{}) }

// number is one that a certificate has: no int of its fields is above 2^63 - 1.
func number(n uint64) api.Item { return der.Int(int(n)) }

func texts(l []string) api.Item {
	var items []api.Item
	for _, s := range l {
		items = append(items, der.Text(s))
	}
	return der.Seq(items...)
}

func preOf(c api.Cert) api.Item {
	return der.Seq(der.Int(c.Serial), der.Text(c.Issuer), der.Text(c.Subject), number(c.Key), texts(c.Names), der.Int(c.From), der.Int(c.Until), der.Bool(c.Ca), der.Int(c.Depth), texts(c.Permit))
}

func bodyOf(c api.Cert) api.Item {
	var items []api.Item
	for _, p := range c.Proms {
		items = append(items, der.Seq(der.Int(p.Log), der.Int(p.At), number(p.Leaf[0]), number(p.Leaf[1]), number(p.Sig.E), number(p.Sig.S)))
	}
	return der.Seq(preOf(c), der.Seq(items...))
}

func wholeOf(c api.Cert) api.Item {
	return der.Seq(bodyOf(c), der.Seq(number(c.Sig.E), number(c.Sig.S)))
}

// of is what an item is of, as tell tells it.
func of[T any](x item, tell func(x api.Item) (T, api.Errno)) T {
	told, e := tell(api.Item(x))
	if e != api.OK {
		throw()
	}
	return told
}

func (x item) all() []item {
	var l []item
	for _, part := range of(x, der.AsSeq) {
		l = append(l, item(part))
	}
	return l
}

func (x item) parts(many int) []item {
	l := x.all()
	if len(l) != many {
		throw()
	}
	return l
}

func (x item) text() string { return of(x, der.AsText) }

func (x item) texts() []string {
	var l []string
	for _, part := range x.all() {
		l = append(l, part.text())
	}
	return l
}

func (x item) int() int {
	n := of(x, der.AsInt)
	if n < 0 {
		throw()
	}
	return n
}

func (x item) number() uint64 { return uint64(x.int()) }

func (x item) sig() api.Sig {
	l := x.parts(itemsOfPair)
	return sigOf(l[0], l[1])
}

func sigOf(e, s item) api.Sig { return api.Sig{E: e.number(), S: s.number()} }

func (x item) promise() api.Promise {
	l := x.parts(itemsOfPromise)
	return api.Promise{Log: l[0].int(), At: l[1].int(), Leaf: api.Sum{l[2].number(), l[3].number()}, Sig: sigOf(l[4], l[5])}
}

func (x item) pre() api.Cert {
	l := x.parts(itemsOfPre)
	return api.Cert{
		Serial: l[0].int(), Issuer: l[1].text(), Subject: l[2].text(), Key: l[3].number(), Names: l[4].texts(),
		From: l[5].int(), Until: l[6].int(), Ca: of(l[7], der.AsBool), Depth: l[8].int(), Permit: l[9].texts(),
	}
}

func (x item) body() api.Cert {
	l := x.parts(itemsOfPair)
	c := l[0].pre()
	for _, promise := range l[1].all() {
		c.Proms = append(c.Proms, promise.promise())
	}
	return c
}

func (x item) whole() api.Cert {
	l := x.parts(itemsOfPair)
	c := l[0].body()
	c.Sig = l[1].sig()
	return c
}
