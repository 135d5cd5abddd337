package path_test

import (
	"math"
	"slices"
	"strconv"
	"strings"
	"testing"

	"greatseal/api"
	"greatseal/cert"
	"greatseal/path"
	"greatseal/sign"
)

// secret is that of whoever is called so.
func secret(who string) uint64 { return sign.Secret([]byte(who)) }

func public(who string) uint64 {
	key, _ := sign.Public(secret(who))
	return key
}

// site is a certificate for two names, that somebody is to sign.
func site(issuer string) api.Cert {
	return api.Cert{Serial: 1, Issuer: issuer, Key: 4, Names: []string{"a.b", "c.b"}, From: 10, Until: 90}
}

func authority(issuer, subject string, depth int, permit ...string) api.Cert {
	return api.Cert{Serial: 2, Issuer: issuer, Subject: subject, Key: public(subject), From: 10, Until: 90, Ca: true, Depth: depth, Permit: permit}
}

// signed is c with the signature of whoever is called so.
func signed(c api.Cert, by string) api.Cert {
	body, e := cert.Body(c)
	if e == api.OK {
		c.Sig, _ = sign.Sign(secret(by), body)
	}
	return c
}

// world is a path of four, and its root behind it, that each is signed by the next one; the root signs itself.
func world() []api.Cert {
	return []api.Cert{site("m1"), authority("m2", "m1", 0, "*.b"), authority("m3", "m2", 1, "a.b", "c.b"), authority("r", "m3", 2, "x", "*.b"), authority("r", "r", 3, "c.b", "*.z", "a.b")}
}

// built is a world that is changed ahead of signing, and behind it.
func built(ahead, behind func(l []api.Cert)) []api.Cert {
	l := world()
	ahead(l)
	for at, by := range []string{"m1", "m2", "m3", "r", "r"} {
		l[at] = signed(l[at], by)
	}
	behind(l)
	return l
}

func same(a, b []api.Cert) bool { return slices.EqualFunc(a, b, cert.Same) }

func copied(l []api.Cert) []api.Cert {
	l = slices.Clone(l)
	for at, c := range l {
		l[at].Names, l[at].Permit, l[at].Proms = slices.Clone(c.Names), slices.Clone(c.Permit), slices.Clone(c.Proms)
	}
	return l
}

// asked is what is asked of a path.
type asked struct {
	roots, chain []api.Cert
	name         string
	now          int
}

// right is asked of a path that is right.
func right() asked {
	l := built(func([]api.Cert) {}, func([]api.Cert) {})
	return asked{roots: l[4:], chain: l[:4], name: "a.b", now: 50}
}

func (a asked) is(t *testing.T, what string, want api.Errno) {
	t.Helper()
	if e := path.Check(a.roots, a.chain, a.name, a.now); e != want {
		t.Errorf("%s: Check(%v, %v, %q, %d) is %d, not %d", what, a.roots, a.chain, a.name, a.now, e, want)
	}
}

func linked(t *testing.T, what string, want api.Errno, child, issuer api.Cert) {
	t.Helper()
	if e := path.Link(child, issuer); e != want {
		t.Errorf("%s: Link(%v, %v) is %d, not %d", what, child, issuer, e, want)
	}
}

// P19.1

func TestLink(t *testing.T) {
	l := built(func([]api.Cert) {}, func([]api.Cert) {})
	for at := range 4 {
		linked(t, "linked", api.OK, l[at], l[at+1])
	}
	linked(t, "to itself", api.OK, l[4], l[4])
	for at, child := range l {
		for other, issuer := range l {
			if other == min(at+1, 4) {
				continue
			}
			linked(t, "not the next one", api.ErrChain, child, issuer)
		}
	}
	for at := range 4 {
		child, issuer := l[at], l[at+1]
		for _, sig := range []api.Sig{{}, {E: child.Sig.E, S: child.Sig.S ^ 1}, {E: child.Sig.E ^ 1, S: child.Sig.S}, l[(at+1)%4].Sig} {
			wrong := child
			wrong.Sig = sig
			linked(t, "another signature", api.ErrSig, wrong, issuer)
		}
		wrong := child
		wrong.Serial++
		linked(t, "another body", api.ErrSig, wrong, issuer)
		wrong = child
		wrong.Proms = []api.Promise{{}}
		linked(t, "promises that were not signed", api.ErrSig, wrong, issuer)
		wrong = issuer
		wrong.Key = public("q")
		linked(t, "another key", api.ErrSig, child, wrong)
		wrong.Key = 3
		linked(t, "a key that is none of the group", api.ErrSig, child, wrong)
		wrong.Key = api.Q - 4
		linked(t, "a key that is none of the group", api.ErrSig, child, wrong)
		wrong = issuer
		wrong.Subject += "x"
		linked(t, "another subject", api.ErrChain, child, wrong)
		wrong.Subject = strings.ToUpper(child.Issuer)
		linked(t, "another subject", api.ErrChain, child, wrong)
		wrong = child
		wrong.Issuer = issuer.Subject + "x"
		linked(t, "another issuer", api.ErrChain, signed(wrong, issuer.Subject), issuer)
	}
	// What else the issuer says, also of the time, is not asked.
	child, issuer := l[0], authority("nobody", "m1", 0, "z")
	issuer.From, issuer.Until = 1000, 1001
	linked(t, "whatever else", api.OK, child, issuer)
	linked(t, "no authority", api.ErrChain, child, l[0])
	none := signed(api.Cert{Issuer: "x", Key: public("x"), Names: []string{"a"}, Until: 1}, "x")
	linked(t, "no authority has no subject", api.ErrChain, none, none)
}

func TestLinkOfWhatMayNotBe(t *testing.T) {
	l := built(func([]api.Cert) {}, func([]api.Cert) {})
	for _, wrong := range noCerts() {
		for _, c := range append(l, noCerts()...) {
			linked(t, "the child is none", api.ErrArg, wrong, c)
			linked(t, "the issuer is none", api.ErrArg, c, wrong)
		}
	}
}

// noCerts are certificates that cert.Check tells an error of.
func noCerts() []api.Cert {
	l := []api.Cert{{}, site(""), authority("r", "", 0), authority("m1", "m1", 5), authority("m1", "m1", 0, "a..b")}
	for _, wrong := range []func(c *api.Cert){func(c *api.Cert) { c.Serial = -1 }, func(c *api.Cert) { c.Key = 0 }, func(c *api.Cert) { c.Until = c.From }, func(c *api.Cert) { c.Sig.E = api.R }} {
		c, other := site("m1"), authority("m2", "m1", 1)
		wrong(&c)
		wrong(&other)
		l = append(l, c, other)
	}
	return l
}

// P19.2

func TestCheck(t *testing.T) {
	a := right()
	a.is(t, "four", api.OK)
	a.name = "c.b"
	a.is(t, "the other name", api.OK)
	// The same authorities are ways of other lengths.
	for many := 1; many <= 4; many++ {
		a := right()
		a.chain, a.roots = a.chain[:many], []api.Cert{append(a.chain, a.roots...)[many]}
		a.is(t, strconv.Itoa(many), api.OK)
		a.roots = nil
		a.is(t, "no roots", api.ErrChain)
	}
	a = right()
	a.roots[0] = signed(authority("r", "m1", 0), "r")
	a.chain = a.chain[:1]
	a.is(t, "a root that another one has signed", api.OK)
	a.roots[0].Sig = api.Sig{}
	a.is(t, "who has signed a root is not asked", api.OK)
}

func TestHowManyThereAre(t *testing.T) {
	for _, many := range []int{0, 5, 6, 50} {
		a := right()
		a.chain = slices.Repeat(a.chain, 20)[:many]
		a.is(t, "path of "+strconv.Itoa(many), api.ErrArg)
		a.roots = nil
		a.is(t, "path of "+strconv.Itoa(many)+", no roots", api.ErrArg)
	}
	five := built(func(l []api.Cert) { l[4].Depth = 4 }, func([]api.Cert) {})
	asked{roots: five[4:], chain: five, name: "a.b", now: 50}.is(t, "path of 5", api.ErrArg)
	for _, many := range []int{1, 2, 15, 16} {
		a := right()
		a.roots = slices.Repeat(a.roots, many)
		a.is(t, "roots "+strconv.Itoa(many), api.OK)
	}
	for _, many := range []int{17, 18, 100} {
		a := right()
		a.roots = slices.Repeat(a.roots, many)
		a.is(t, "roots "+strconv.Itoa(many), api.ErrArg)
	}
}

func TestNow(t *testing.T) {
	for _, now := range []int{math.MinInt, -2, -1, api.MaxTime + 1, math.MaxInt} {
		a := right()
		a.now = now
		a.is(t, "no time", api.ErrArg)
	}
	for at := range 5 {
		for _, x := range []struct {
			from, until, now int
			want             api.Errno
		}{
			{10, 90, 9, api.ErrDate}, {10, 90, 10, api.OK}, {10, 90, 11, api.OK}, {10, 90, 88, api.OK}, {10, 90, 89, api.OK}, {10, 90, 90, api.ErrDate}, {10, 90, 91, api.ErrDate}, {10, 90, 0, api.ErrDate}, {10, 90, api.MaxTime, api.ErrDate}, {49, 51, 50, api.OK}, {50, 51, 50, api.OK}, {49, 50, 50, api.ErrDate}, {51, 52, 50, api.ErrDate},
			{0, api.MaxTime, 0, api.OK}, {0, 1, 0, api.OK}, {1, 2, 0, api.ErrDate}, {0, api.MaxTime, api.MaxTime - 1, api.OK}, {0, api.MaxTime, api.MaxTime, api.ErrDate}, {api.MaxTime - 1, api.MaxTime, api.MaxTime - 1, api.OK},
		} {
			l := built(func(l []api.Cert) {
				for k := range l {
					l[k].From, l[k].Until = 0, api.MaxTime
				}
				l[at].From, l[at].Until = x.from, x.until
			}, func([]api.Cert) {})
			asked{roots: l[4:], chain: l[:4], name: "a.b", now: x.now}.is(t, "number "+strconv.Itoa(at), x.want)
		}
	}
}

func TestName(t *testing.T) {
	for _, name := range []string{"", ".", "a..b", "-a", "A.b", "*.b", "a.b.", strings.Repeat("a", 17), "a.a.a.a.a.a.a.a.b"} {
		a := right()
		a.name = name
		a.is(t, "no name", api.ErrName)
	}
	for _, name := range []string{"b", "a", "x.a.b", "b.b", "d.b", "a.c"} {
		a := right()
		a.name = name
		a.is(t, "another name", api.ErrName)
	}
	// Also of an authority, which has no names, it is another error.
	a := right()
	a.chain = a.chain[1:]
	a.name = "A"
	a.is(t, "no name, of an authority", api.ErrName)
	a.name = "a.b"
	a.is(t, "of an authority", api.ErrChain)
}

func TestDepth(t *testing.T) {
	for at := 1; at <= 4; at++ {
		for depth := range 5 {
			l := built(func(l []api.Cert) { l[at].Depth = depth }, func([]api.Cert) {})
			want := api.OK
			if depth < at-1 {
				want = api.ErrChain
			}
			asked{roots: l[4:], chain: l[:4], name: "a.b", now: 50}.is(t, "number "+strconv.Itoa(at), want)
		}
	}
	for many := 1; many <= 3; many++ {
		for depth := range 5 {
			l := built(func(l []api.Cert) { l[many].Depth = depth }, func([]api.Cert) {})
			want := api.OK
			if depth < many-1 {
				want = api.ErrChain
			}
			asked{roots: l[many : many+1], chain: l[:many], name: "a.b", now: 50}.is(t, "root behind "+strconv.Itoa(many), want)
		}
	}
}

func TestPermit(t *testing.T) {
	for at := 1; at <= 4; at++ {
		for _, x := range []struct {
			permit []string
			want   api.Errno
		}{
			{nil, api.OK}, {[]string{"*.b"}, api.OK}, {[]string{"a.b", "c.b"}, api.OK}, {[]string{"c.b", "z", "a.b"}, api.OK}, {[]string{"*.z", "*.b"}, api.OK}, {[]string{"a.b"}, api.ErrName}, {[]string{"c.b"}, api.ErrName}, {[]string{"a.b", "b"}, api.ErrName}, {[]string{"z"}, api.ErrName}, {[]string{"*.a.b", "*.c.b"}, api.ErrName}, {[]string{"b"}, api.ErrName}, {[]string{"a", "b", "c", "d", "e", "f", "g", "*.b"}, api.OK},
		} {
			l := built(func(l []api.Cert) { l[at].Permit = x.permit }, func([]api.Cert) {})
			for _, name := range []string{"a.b", "c.b"} {
				asked{roots: l[4:], chain: l[:4], name: name, now: 50}.is(t, "number "+strconv.Itoa(at), x.want)
			}
		}
	}
}

// fault is one that makes a path wrong; those that touch the same are not tried together.
type fault struct {
	what   string
	e      api.Errno
	touch  string
	ahead  func(l []api.Cert)
	behind func(l []api.Cert)
	ask    func(a *asked)
}

func notAuthority(l []api.Cert, at int) {
	l[at] = api.Cert{Issuer: l[at].Issuer, Key: l[at].Key, Names: []string{"a.b"}, From: 10, Until: 90}
}

// faults come in the order in which they are told.
func faults() []fault {
	all := []fault{
		{what: "no time", e: api.ErrArg, touch: "now", ask: func(a *asked) { a.now = -1 }},
		{what: "too many roots", e: api.ErrArg, touch: "roots", ask: func(a *asked) { a.roots = slices.Repeat(a.roots, 17) }},
		{what: "too long a path", e: api.ErrArg, touch: "path", ask: func(a *asked) { a.chain = append(slices.Clone(a.chain), a.roots...) }},
		{what: "no name", e: api.ErrName, touch: "name", ask: func(a *asked) { a.name = "A" }},
	}
	for at := range 5 {
		all = append(all, fault{what: "no certificate", e: api.ErrArg, touch: "form" + strconv.Itoa(at), behind: func(l []api.Cert) { l[at].Serial = -1 }})
	}
	all = append(all, fault{what: "the first one is an authority", e: api.ErrChain, touch: "kind0", ahead: func(l []api.Cert) { l[0] = authority("m1", "q", 4) }})
	for at := 1; at < 4; at++ {
		all = append(all, fault{what: "no authority", e: api.ErrChain, touch: "kind" + strconv.Itoa(at), ahead: func(l []api.Cert) { notAuthority(l, at) }})
	}
	all = append(all, fault{what: "another name", e: api.ErrName, touch: "name", ask: func(a *asked) { a.name = "d.b" }})
	for at := range 4 {
		all = append(all, fault{what: "not in time", e: api.ErrDate, touch: "kind" + strconv.Itoa(at), ahead: func(l []api.Cert) { l[at].From = 51 + at }})
	}
	for at := range 4 {
		if at == 3 {
			all = append(all, fault{what: "the root is no authority", e: api.ErrChain, touch: "kind4", ahead: func(l []api.Cert) { notAuthority(l, 4) }})
		}
		all = append(all,
			fault{what: "another issuer", e: api.ErrChain, touch: "kind" + strconv.Itoa(at), ahead: func(l []api.Cert) { l[at].Issuer = "q" }},
			fault{what: "another signature", e: api.ErrSig, touch: "sig" + strconv.Itoa(at), behind: func(l []api.Cert) { l[at].Sig.S ^= 1 }},
		)
	}
	all = append(all, fault{what: "the root is not in time", e: api.ErrDate, touch: "kind4", ahead: func(l []api.Cert) { l[4].Until = 50 }})
	for at := 1; at < 5; at++ {
		if at > 1 {
			all = append(all, fault{what: "too little depth", e: api.ErrChain, touch: "depth" + strconv.Itoa(at), ahead: func(l []api.Cert) { l[at].Depth = at - 2 }})
		}
		all = append(all, fault{what: "not permitted", e: api.ErrName, touch: "permit" + strconv.Itoa(at), ahead: func(l []api.Cert) {
			if l[at].Ca {
				l[at].Permit = []string{"*.z", "c.b"}
			}
		}})
	}
	return all
}

func TestEachErrorAheadOfThoseBehindIt(t *testing.T) {
	all := faults()
	try := func(want fault, others ...fault) {
		t.Helper()
		tried := append([]fault{want}, others...)
		what := ""
		for _, f := range slices.Backward(tried) {
			what += f.what + ", " + f.touch + "; "
		}
		l := built(func(l []api.Cert) {
			for _, f := range slices.Backward(tried) {
				if f.ahead != nil {
					f.ahead(l)
				}
			}
		}, func(l []api.Cert) {
			for _, f := range slices.Backward(tried) {
				if f.behind != nil {
					f.behind(l)
				}
			}
		})
		a := asked{roots: l[4:], chain: l[:4], name: "a.b", now: 50}
		for _, f := range tried {
			if f.ask != nil {
				f.ask(&a)
			}
		}
		a.is(t, what, want.e)
	}
	for at, f := range all {
		try(f)
		var others []fault
		for _, other := range all[at+1:] {
			if other.touch == f.touch {
				continue
			}
			try(f, other)
			if !slices.ContainsFunc(others, func(o fault) bool { return o.touch == other.touch }) {
				others = append(others, other)
			}
		}
		try(f, others...)
	}
}

func TestRoots(t *testing.T) {
	a := right()
	good := a.roots[0]
	other := authority("r", "other", 3)
	sig := good
	sig.Key = public("q")
	late := good
	late.From = 51
	low := good
	low.Depth = 2
	narrow := good
	narrow.Permit = []string{"a.b"}
	none := signed(site("r"), "r")
	wrong := []api.Cert{other, sig, late, low, narrow, none}
	errors := []api.Errno{api.ErrChain, api.ErrSig, api.ErrDate, api.ErrChain, api.ErrName, api.ErrChain}
	for k, root := range wrong {
		a.roots = []api.Cert{root}
		a.is(t, "one root", errors[k])
		a.roots = []api.Cert{root, good}
		a.is(t, "a later one tells OK", api.OK)
		a.roots = []api.Cert{good, root}
		a.is(t, "the first one tells OK", api.OK)
		for _, second := range wrong {
			a.roots = []api.Cert{root, second}
			a.is(t, "what the first one tells", errors[k])
			a.roots = []api.Cert{root, second, good}
			a.is(t, "the last one tells OK", api.OK)
		}
		a.roots = append(slices.Repeat([]api.Cert{root}, 15), good)
		a.is(t, "the last one of 16 tells OK", api.OK)
		for _, c := range noCerts() {
			a.roots = []api.Cert{root, c}
			a.is(t, "a root that is none", api.ErrArg)
			a.roots = []api.Cert{good, c}
			a.is(t, "a root that is none", api.ErrArg)
		}
	}
	a.roots = nil
	a.is(t, "no roots", api.ErrChain)
}

// P19.3

// rows are all rows of places of a pool, in the order of the chapter.
func rows(many, most int) [][]int {
	all := [][]int{{}}
	last := all
	for range most {
		var next [][]int
		for _, row := range last {
			for place := range many {
				if !slices.Contains(row, place) {
					next = append(next, append(slices.Clone(row), place))
				}
			}
		}
		all, last = append(all, next...), next
	}
	slices.SortFunc(all, slices.Compare)
	return all
}

func finds(t *testing.T, what string, roots, pool []api.Cert, leaf api.Cert, name string, now int) int {
	t.Helper()
	var want [][]api.Cert
	for _, row := range rows(len(pool), min(4, len(pool))) {
		chain := []api.Cert{leaf}
		for _, place := range row {
			chain = append(chain, pool[place])
		}
		if path.Check(roots, chain, name, now) == api.OK {
			want = append(want, chain)
		}
	}
	told := path.Build(roots, pool, leaf, name, now)
	if !slices.EqualFunc(told, want, same) {
		t.Errorf("%s: Build tells %v, not %v", what, told, want)
	}
	return len(want)
}

func serials(l [][]api.Cert) string {
	text := ""
	for _, chain := range l {
		for _, c := range chain {
			text += strconv.Itoa(c.Serial)
		}
		text += " "
	}
	return text
}

// numbered is an authority with a serial number, by which it is known.
func numbered(serial int, issuer, subject string, depth int) api.Cert {
	c := authority(issuer, subject, depth)
	c.Serial = serial
	return signed(c, issuer)
}

func TestBuild(t *testing.T) {
	// Two keep each other's authority, both have a root's, and one has its own.
	leaf := site("m")
	leaf.Serial = 0
	leaf = signed(leaf, "m")
	root := numbered(9, "r", "r", 4)
	pool := []api.Cert{numbered(1, "r", "m", 4), numbered(2, "k", "m", 4), numbered(3, "m", "k", 4), numbered(4, "r", "k", 4), numbered(5, "m", "m", 4)}
	told := path.Build([]api.Cert{root}, pool, leaf, "a.b", 50)
	if serials(told) != "01 0231 024 051 0524 " {
		t.Errorf("Build tells %s", serials(told))
	}
	for name, want := range map[string]int{"a.b": 5, "c.b": 5, "d.b": 0, "": 0} {
		if many := finds(t, "name "+name, []api.Cert{root}, pool, leaf, name, 50); many != want {
			t.Errorf("of %q there are %d", name, many)
		}
	}
	for now, want := range map[int]int{-1: 0, 9: 0, 10: 5, 89: 5, 90: 0, api.MaxTime + 1: 0} {
		if many := finds(t, "now", []api.Cert{root}, pool, leaf, "a.b", now); many != want {
			t.Errorf("at %d there are %d", now, many)
		}
	}
	finds(t, "reversed", []api.Cert{root}, slices.Concat(pool[3:], pool[:3]), leaf, "a.b", 50)
	if many := finds(t, "no pool", []api.Cert{root}, nil, leaf, "a.b", 50); many != 0 {
		t.Errorf("without a pool there are %d", many)
	}
	if many := finds(t, "a root of its own", []api.Cert{pool[0]}, nil, leaf, "a.b", 50); many != 1 {
		t.Errorf("of a root alone there are %d", many)
	}
	if many := finds(t, "all are roots", append(pool, root), pool, leaf, "a.b", 50); many < 10 {
		t.Errorf("of all roots there are %d", many)
	}
	if told := path.Build(nil, pool, leaf, "a.b", 50); len(told) != 0 {
		t.Errorf("without roots Build tells %s", serials(told))
	}
	if told := path.Build(slices.Repeat([]api.Cert{root}, 17), pool, leaf, "a.b", 50); len(told) != 0 {
		t.Errorf("of 17 roots Build tells %s", serials(told))
	}
	if told := path.Build([]api.Cert{root}, pool, pool[0], "a.b", 50); len(told) != 0 {
		t.Errorf("of an authority Build tells %s", serials(told))
	}
	if told := path.Build([]api.Cert{root}, pool, api.Cert{}, "a.b", 50); len(told) != 0 {
		t.Errorf("of no certificate Build tells %s", serials(told))
	}
}

func TestBuildOfTheSameTwice(t *testing.T) {
	leaf := site("m")
	leaf.Serial = 0
	leaf = signed(leaf, "m")
	root := numbered(9, "r", "r", 4)
	one, two := numbered(1, "r", "m", 4), numbered(2, "m", "m", 4)
	for _, x := range []struct {
		pool []api.Cert
		want string
	}{
		{[]api.Cert{one, one}, "01 01 "}, {[]api.Cert{one, two, one}, "01 021 021 01 "}, {[]api.Cert{two, one, two}, "021 0221 01 0221 021 "}, {[]api.Cert{two, two}, ""},
		{slices.Repeat([]api.Cert{one}, 8), strings.Repeat("01 ", 8)}, {slices.Repeat([]api.Cert{one}, 9), ""}, {append(slices.Repeat([]api.Cert{leaf}, 7), one), "01 "}, {append(slices.Repeat([]api.Cert{leaf}, 8), one), ""}, {append(slices.Repeat([]api.Cert{{}}, 7), one), "01 "},
	} {
		if told := path.Build([]api.Cert{root}, x.pool, leaf, "a.b", 50); serials(told) != x.want {
			t.Errorf("Build tells %s, not %s", serials(told), x.want)
		}
		if len(x.pool) <= 8 {
			finds(t, "the same twice", []api.Cert{root}, x.pool, leaf, "a.b", 50)
		}
	}
	self := numbered(1, "m", "m", 4)
	if many := finds(t, "all rows", []api.Cert{self}, slices.Repeat([]api.Cert{self}, 8), leaf, "a.b", 50); many != 1+8+8*7+8*7*6 {
		t.Errorf("there are %d", many)
	}
}

func TestBuildOfAGreatPool(t *testing.T) {
	l := built(func([]api.Cert) {}, func([]api.Cert) {})
	wrong := l[1]
	wrong.Sig.S ^= 1
	late := authority("m2", "m1", 0)
	late.From = 51
	low := authority("m3", "m2", 0)
	pool := []api.Cert{l[3], wrong, l[1], signed(late, "m2"), l[0], l[2], {}, signed(low, "m3")}
	// The root is below some of it as well.
	for _, roots := range [][]api.Cert{l[4:], l[3:], l[2:], l[1:], {l[2]}, {l[4], {}}, nil} {
		finds(t, "a great pool", roots, pool, l[0], "a.b", 50)
		finds(t, "a great pool, turned", roots, slices.Concat(pool[5:], pool[:5]), l[0], "c.b", 50)
	}
	if many := finds(t, "a great pool", l[4:], pool, l[0], "a.b", 50); many != 1 {
		t.Errorf("there are %d", many)
	}
	if many := finds(t, "a great pool", l[2:], pool, l[0], "a.b", 50); many != 3 {
		t.Errorf("there are %d", many)
	}
}

// P19.4

func TestMoreRoots(t *testing.T) {
	a := right()
	others := []api.Cert{authority("r", "other", 3), authority("x", "r", 0), signed(site("r"), "r")}
	for _, more := range others {
		for _, roots := range [][]api.Cert{append([]api.Cert{more}, a.roots...), append(slices.Clone(a.roots), more), slices.Concat(others, a.roots, others), slices.Concat(slices.Repeat([]api.Cert{more}, 15), a.roots)} {
			b := a
			b.roots = roots
			b.is(t, "more roots", api.OK)
		}
	}
}

// R2, R6

func TestNothingIsChangedOrShared(t *testing.T) {
	l := built(func(l []api.Cert) {
		for at := range l {
			l[at].Proms = []api.Promise{{Log: at}}
		}
	}, func([]api.Cert) {})
	was := copied(l)
	roots, pool := append(copied(l[4:]), api.Cert{})[:1], append(copied(l[1:4]), api.Cert{}, api.Cert{})[:3]
	leaf := copied(l[:1])[0]
	told := path.Build(roots, pool, leaf, "a.b", 50)
	path.Check(roots, append([]api.Cert{leaf}, pool...), "a.b", 50)
	path.Link(leaf, pool[0])
	if !same(roots, was[4:]) || !same(pool, was[1:4]) || !cert.Same(leaf, was[0]) || !cert.Same(pool[:4][3], api.Cert{}) {
		t.Error("what is handed in is changed")
	}
	if len(told) != 1 || !same(told[0], was[:4]) {
		t.Fatalf("Build tells %v", told)
	}
	spoil := func(l []api.Cert) {
		for _, c := range l {
			clear(c.Names)
			clear(c.Permit)
			clear(c.Proms)
		}
		clear(l)
	}
	spoil(roots)
	spoil(pool)
	spoil([]api.Cert{leaf})
	if !same(told[0], was[:4]) {
		t.Error("what was told changes with what was handed in")
	}
	pool, leaf = copied(l[1:4]), copied(l[:1])[0]
	for _, chain := range path.Build(l[4:], pool, leaf, "a.b", 50) {
		spoil(chain[:cap(chain)])
	}
	if !same(pool, was[1:4]) || !cert.Same(leaf, was[0]) {
		t.Error("what was handed in changes with what was told")
	}
}

func TestWhatStandsBehindAPathStays(t *testing.T) {
	l := built(func([]api.Cert) {}, func([]api.Cert) {})
	was := copied(l)
	root := l[2]
	root.Serial++
	asked{[]api.Cert{root}, l[:2], "a.b", 50}.is(t, "the first two of more", api.OK)
	if !same(l, was) {
		t.Error("Check writes behind what is handed in")
	}
	if told := path.Build([]api.Cert{root}, l[1:2], l[0], "a.b", 50); len(told) != 1 || !same(l, was) {
		t.Error("Build writes behind what is handed in")
	}
}

// The chapter's example

func TestExample(t *testing.T) {
	r, m := signed(authority("R", "R", 1), "R"), signed(authority("R", "M", 0), "R")
	l := api.Cert{Serial: 1, Issuer: "M", Key: 4, Names: []string{"a.b"}, From: 10, Until: 90}
	l = signed(l, "M")
	asked{[]api.Cert{r}, []api.Cert{l, m}, "a.b", 50}.is(t, "example", api.OK)
	asked{[]api.Cert{r}, []api.Cert{l}, "a.b", 50}.is(t, "example", api.ErrChain)
	asked{[]api.Cert{r}, []api.Cert{l, m}, "b", 50}.is(t, "example", api.ErrName)
	if told := path.Build([]api.Cert{r}, []api.Cert{m}, l, "a.b", 50); len(told) != 1 || !same(told[0], []api.Cert{l, m}) {
		t.Errorf("Build tells %v", told)
	}
}
