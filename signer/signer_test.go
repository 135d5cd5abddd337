package signer_test

import (
	"bytes"
	"encoding/binary"
	"math"
	"slices"
	"testing"

	"greatseal/api"
	"greatseal/cert"
	"greatseal/hash"
	"greatseal/logd"
	"greatseal/policy"
	"greatseal/quorum"
	"greatseal/rule"
	"greatseal/sign"
	"greatseal/signer"
	"greatseal/wal"
)

// logOf is one of the logs 0 to 3.
func logOf(id int) api.Log {
	l, _ := logd.New(id, []byte{byte(id)}, 20)
	return l
}

func keyOf(id int) api.Key {
	key, _ := logd.Public(logOf(id))
	return key
}

func keysOf(ids ...int) []api.Key {
	var keys []api.Key
	for _, id := range ids {
		keys = append(keys, keyOf(id))
	}
	return keys
}

func crew() (api.Crew, []api.Share) {
	c, shares, _ := quorum.Deal([]byte("crew"), 2, 3)
	return c, shares
}

// table allows all below b, but not x.b, for 90 at most, and keys of 1000 at least.
func table() api.Table {
	rules, _, _ := rule.Parse([]byte("allow all { *.b; key 1000; life 90; } refuse one { x.b; }"))
	t, _ := policy.Compile(rules)
	return t
}

func site(serial int, all ...string) api.Cert {
	key, _ := sign.Public(sign.Secret([]byte("site")))
	return api.Cert{Serial: serial, Issuer: "greatseal", Key: key, Names: all, From: 10, Until: 60}
}

func authority(serial int) api.Cert {
	c := site(serial)
	c.Ca, c.Subject = true, "another"
	return c
}

// promised is c with what so many logs promise of it.
func promised(c api.Cert, ids ...int) api.Cert {
	pre, _ := cert.Pre(c)
	c.Proms = nil
	for _, id := range ids {
		_, p, _ := logd.Add(logOf(id), pre, 30+id)
		c.Proms = append(c.Proms, p)
	}
	return c
}

func body(c api.Cert) []byte {
	b, _ := cert.Body(c)
	return b
}

// right is a body that an honest signer signs.
func right(serial int) []byte { return body(promised(site(serial, "a.b"), 0, 1)) }

// other is another one of the same serial number.
func other(serial int) []byte { return body(promised(site(serial, "c.b"), 0, 1)) }

func doneOf(session, serial int, b []byte) api.Done {
	return api.Done{Session: session, Serial: serial, Body: hash.Sum(b)}
}

func bytesOf(d api.Done) []byte {
	b := binary.BigEndian.AppendUint64(nil, uint64(d.Session))
	b = binary.BigEndian.AppendUint64(b, uint64(d.Serial))
	return append(b, hash.Bytes(d.Body)...)
}

// frame is what a store has of bytes.
func frame(b []byte) []byte {
	x := binary.BigEndian.AppendUint32(nil, uint32(len(b)))
	return append(append(x, b...), hash.Bytes(hash.Sum(b))...)
}

func frames(all ...[]byte) []byte {
	var x []byte
	for _, b := range all {
		x = append(x, frame(b)...)
	}
	return x
}

func framesOf(all ...api.Done) []byte {
	var x []byte
	for _, d := range all {
		x = append(x, frame(bytesOf(d))...)
	}
	return x
}

// share is the first one of the crew.
func share() api.Share {
	_, shares := crew()
	return shares[0]
}

// knowing is a signer that has done things, of which all bytes but for so many are safe.
func knowing(open int, all ...api.Done) api.Signer {
	b := framesOf(all...)
	safe := len(b) - open
	return api.Signer{Share: share(), Up: true, Done: all, Store: api.Store{Safe: b[:safe:safe], Open: b[safe:]}}
}

// three are things that were done: the second and the third one are of one body.
func three() []api.Done {
	return []api.Done{doneOf(7, 1, right(1)), doneOf(9, 2, right(2)), doneOf(8, 2, right(2))}
}

func some() api.Signer { return knowing(60, three()...) }

func down(safe, open []byte) api.Signer {
	return api.Signer{Share: share(), Store: api.Store{Safe: safe, Open: open}}
}

func copied(s api.Signer) api.Signer {
	s.Done = slices.Clone(s.Done)
	s.Store.Safe, s.Store.Open = bytes.Clone(s.Store.Safe), bytes.Clone(s.Store.Open)
	return s
}

func changed(s api.Signer, change func(s *api.Signer)) api.Signer {
	s = copied(s)
	change(&s)
	return s
}

func same(a, b api.Signer) bool {
	return a.Share == b.Share && a.Bad == b.Bad && a.Up == b.Up && slices.Equal(a.Done, b.Done) && bytes.Equal(a.Store.Safe, b.Store.Safe) && bytes.Equal(a.Store.Open, b.Store.Open)
}

func noNumbers() []int {
	return []int{math.MinInt, -2, -1, api.MaxTime + 1, api.MaxTime + 2, math.MaxInt}
}

func noShares() []api.Share {
	return []api.Share{{}, {Id: 0, X: 5}, {Id: 8, X: 5}, {Id: -1, X: 5}, {Id: math.MinInt, X: 5}, {Id: math.MaxInt, X: 5}, {Id: 1, X: api.R}, {Id: 1, X: api.R + 1}, {Id: 7, X: math.MaxUint64}}
}

// P25.1

func TestNew(t *testing.T) {
	for id := 1; id <= 7; id++ {
		for _, x := range []uint64{0, 1, 77, api.R - 1} {
			s := api.Share{Id: id, X: x}
			if y, e := signer.New(s); !same(y, api.Signer{Share: s, Up: true}) || e != api.OK {
				t.Errorf("New(%v) is %v, %d", s, y, e)
			}
		}
	}
	for _, s := range noShares() {
		if y, e := signer.New(s); !same(y, api.Signer{}) || e != api.ErrArg {
			t.Errorf("New(%v) is %v, %d", s, y, e)
		}
	}
}

func checked(t *testing.T, what string, want api.Errno, s api.Signer) {
	t.Helper()
	if e := signer.Check(s); e != want {
		t.Errorf("%s: Check(%v) is %d, not %d", what, s, e, want)
	}
	if want == api.OK {
		return
	}
	// Whoever is handed a signer looks at it first, whatever else is wrong.
	a, p, e := signer.Commit(s, -1, nil, nil, api.Table{})
	b, q, f := signer.Part(api.Crew{}, s, -1, nil, nil)
	if e != want || f != want || !same(a, api.Signer{}) || !same(b, api.Signer{}) || p != (api.Share{}) || q != (api.Share{}) {
		t.Errorf("%s: others tell %d, %d", what, e, f)
	}
	a, e = signer.Crash(s, -1)
	b, f = signer.Back(s)
	c, g := signer.Corrupt(s)
	if e != want || f != want || g != want || !same(a, api.Signer{}) || !same(b, api.Signer{}) || !same(c, api.Signer{}) {
		t.Errorf("%s: others tell %d, %d, %d", what, e, f, g)
	}
}

func TestCheckOfWhatMayBe(t *testing.T) {
	checked(t, "some", api.OK, some())
	checked(t, "nothing done", api.OK, api.Signer{Share: api.Share{Id: 7, X: api.R - 1}, Up: true, Done: []api.Done{}})
	checked(t, "a bad one", api.OK, changed(some(), func(s *api.Signer) { s.Bad = true }))
	for open := range len(framesOf(three()...)) + 1 {
		checked(t, "safe, and open", api.OK, knowing(open, three()...))
	}
	one := doneOf(7, 1, right(1))
	checked(t, "the same twice", api.OK, knowing(0, one, one))
	for _, n := range []int{0, 1, api.MaxTime - 1, api.MaxTime} {
		checked(t, "a session", api.OK, knowing(0, api.Done{Session: n}))
		checked(t, "a serial number", api.OK, knowing(0, api.Done{Serial: n}))
	}
	for _, body := range []api.Sum{{}, {api.P - 1, 0}, {0, api.P - 1}} {
		checked(t, "a hash", api.OK, knowing(0, api.Done{Body: body}))
	}
	for _, safe := range [][]byte{nil, []byte("torn"), frames(nil), make([]byte, 65536), framesOf(api.Done{Session: -1}), framesOf(three()...)} {
		checked(t, "one that is not up, whatever it has stored", api.OK, down(safe, nil))
		checked(t, "one that is not up, whatever it has stored", api.OK, down(nil, safe))
	}
}

// noFrames are such that a store with them tells nothing.
func noFrames() [][]byte {
	good := bytesOf(doneOf(7, 1, right(1)))
	l := [][]byte{frames(nil), frames([]byte("x")), frames(good[:31]), frames(append(bytes.Clone(good), 0)), frames(good, good[:31]), frames(nil, good), frames(make([]byte, 33)), frames(make([]byte, 16))}
	for _, n := range noNumbers() {
		l = append(l, framesOf(api.Done{Session: n}), framesOf(api.Done{Serial: n}), framesOf(doneOf(7, 1, right(1)), api.Done{Serial: n}))
	}
	for _, n := range []uint64{api.P, api.P + 1, math.MaxUint64} {
		l = append(l, framesOf(api.Done{Body: api.Sum{n, 0}}), framesOf(api.Done{Body: api.Sum{0, n}}))
	}
	for _, pair := range contradictions() {
		l = append(l, framesOf(pair...), framesOf(pair[1], pair[0]), framesOf(pair[0], doneOf(90, 90, nil), pair[1]))
	}
	return l
}

// contradictions are pairs of one session, or of one serial number.
func contradictions() [][]api.Done {
	d := doneOf(7, 1, right(1))
	l := [][]api.Done{{d, doneOf(7, 2, right(1))}, {d, doneOf(7, 2, right(2))}, {d, doneOf(7, 1, other(1))}, {d, doneOf(8, 1, other(1))}}
	for at := range 2 {
		x := d
		x.Body[at] ^= 1
		y := x
		y.Session++
		l = append(l, []api.Done{d, x}, []api.Done{d, y})
	}
	return l
}

func TestCheckOfWhatMayNotBe(t *testing.T) {
	for _, s := range noShares() {
		checked(t, "no share", api.ErrArg, changed(some(), func(x *api.Signer) { x.Share = s }))
		checked(t, "no share", api.ErrArg, api.Signer{Share: s})
	}
	for _, b := range noFrames() {
		var all []api.Done
		l, _ := wal.Read(api.Store{Safe: b})
		for range l {
			all = append(all, doneOf(7, 1, right(1)))
		}
		for _, done := range [][]api.Done{nil, all} {
			s := api.Signer{Share: share(), Up: true, Done: done, Store: api.Store{Safe: b}}
			checked(t, "frames that tell nothing", api.ErrArg, s)
		}
	}
	for _, pair := range contradictions() {
		checked(t, "what contradicts", api.ErrArg, knowing(0, pair...))
	}
	for _, change := range []func(s *api.Signer){
		func(s *api.Signer) { s.Done = nil },
		func(s *api.Signer) { s.Done = s.Done[:2] },
		func(s *api.Signer) { s.Done = append(s.Done, doneOf(90, 90, nil)) },
		func(s *api.Signer) { s.Done[0], s.Done[1] = s.Done[1], s.Done[0] },
		func(s *api.Signer) { s.Done[2].Session++ },
		func(s *api.Signer) { s.Done[2].Serial++ },
		func(s *api.Signer) { s.Done[2].Body[1]++ },
		func(s *api.Signer) { s.Store.Open = nil },
		func(s *api.Signer) { s.Store.Open = append(s.Store.Open, 0) },
		func(s *api.Signer) { s.Store.Open = s.Store.Open[:59] },
		func(s *api.Signer) { s.Store.Open[30] ^= 1 },
		func(s *api.Signer) { s.Store = api.Store{} },
		func(s *api.Signer) { s.Up = false },
	} {
		checked(t, "something else than the store tells", api.ErrArg, changed(some(), change))
		checked(t, "something else than the store tells, of a bad one", api.ErrArg, changed(some(), func(s *api.Signer) {
			s.Bad = true
			change(s)
		}))
	}
	for _, x := range [][2]int{{65537, 0}, {0, 65537}, {65536, 1}} {
		s := down(make([]byte, x[0]), make([]byte, x[1]))
		checked(t, "too many bytes", api.ErrBound, s)
		s.Share, s.Up = api.Share{}, true
		checked(t, "too many bytes", api.ErrBound, s)
	}
}

func TestCorrupt(t *testing.T) {
	for _, s := range []api.Signer{some(), down([]byte("torn"), []byte("x")), knowing(0), changed(some(), func(s *api.Signer) { s.Bad = true })} {
		if x, e := signer.Corrupt(s); !same(x, changed(s, func(s *api.Signer) { s.Bad = true })) || e != api.OK {
			t.Errorf("Corrupt(%v) is %v, %d", s, x, e)
		}
	}
}

// P25.2

func may(t *testing.T, what string, want api.Errno, b []byte, keys []api.Key, tab api.Table) {
	t.Helper()
	if e := signer.May(b, keys, tab); e != want {
		t.Errorf("%s: May is %d, not %d", what, e, want)
	}
	// An honest signer tells the same, and remembers nothing then; a bad one does not ask.
	x, c, e := signer.Commit(knowing(0), 5, b, keys, tab)
	if e != want || want != api.OK && (c != (api.Share{}) || !same(x, api.Signer{})) {
		t.Errorf("%s: Commit is %v, %v, %d, not %d", what, x, c, e, want)
	}
	bad := changed(knowing(0), func(s *api.Signer) { s.Bad = true })
	c, _ = quorum.Commit(share(), 5, b)
	if x, d, e := signer.Commit(bad, 5, b, keys, tab); !same(x, bad) || c != d || e != api.OK {
		t.Errorf("%s: Commit of a bad one is %v, %v, %d", what, x, d, e)
	}
}

func TestMayOfWhatIsNoBody(t *testing.T) {
	c := promised(site(1, "a.b"), 0, 1)
	pre, _ := cert.Pre(c)
	whole, _ := cert.Put(c)
	b := body(c)
	for _, b := range [][]byte{nil, {}, {48}, {49, 0}, {48, 0}, pre, whole, append(bytes.Clone(b), 0), b[1:], b[:len(b)-1], make([]byte, 5000)} {
		_, want := cert.GetBody(b)
		if want == api.OK {
			t.Fatal("a body")
		}
		may(t, "no body", want, b, keysOf(0, 1), table())
		may(t, "no body", want, b, nil, api.Table{})
	}
}

func TestMayOfPromises(t *testing.T) {
	is := func(what string, want api.Errno, c api.Cert, keys []api.Key) {
		t.Helper()
		may(t, what, want, body(c), keys, table())
	}
	for _, x := range []struct {
		ids  []int
		keys []api.Key
		e    api.Errno
	}{
		{nil, keysOf(0, 1), api.ErrPromise}, {[]int{0}, keysOf(0, 1), api.ErrPromise}, {[]int{1}, keysOf(0, 1), api.ErrPromise}, {[]int{0, 1}, keysOf(0, 1), api.OK}, {[]int{0, 1}, keysOf(1, 0), api.OK},
		{[]int{0, 1}, keysOf(0), api.ErrPromise}, {[]int{0, 1}, keysOf(1), api.ErrPromise}, {[]int{0, 1}, nil, api.ErrPromise}, {[]int{0, 1}, keysOf(2, 3), api.ErrPromise}, {[]int{0, 1}, keysOf(0, 0), api.ErrPromise},
		{[]int{0, 1, 2}, keysOf(0, 1), api.OK}, {[]int{0, 1, 2}, keysOf(0, 2), api.OK}, {[]int{0, 1, 2}, keysOf(2, 1), api.OK}, {[]int{0, 1, 2, 3}, keysOf(3, 2), api.OK}, {[]int{0, 1, 2, 3}, keysOf(0, 1, 2, 3), api.OK}, {[]int{0, 1, 2, 3}, keysOf(3), api.ErrPromise},
	} {
		is("promises, and keys", x.e, promised(site(1, "a.b"), x.ids...), x.keys)
	}
	// The first key of a log counts, whether it is right or not.
	wrong := api.Key{Log: 1, Key: keyOf(0).Key}
	is("a wrong key behind", api.OK, promised(site(1, "a.b"), 0, 1), append(keysOf(0, 1), wrong))
	is("a wrong key ahead", api.ErrPromise, promised(site(1, "a.b"), 0, 1), []api.Key{keyOf(0), wrong, keyOf(1)})
	is("no key of the group", api.ErrPromise, promised(site(1, "a.b"), 0, 1), []api.Key{keyOf(0), {Log: 1, Key: 2}})
	is("a wrong one of three", api.OK, promised(site(1, "a.b"), 0, 1, 2), []api.Key{keyOf(0), wrong, keyOf(2)})
	for k, change := range []func(p *api.Promise){
		func(p *api.Promise) { p.At++ }, func(p *api.Promise) { p.Leaf[0] ^= 1 }, func(p *api.Promise) { p.Sig.E ^= 1 }, func(p *api.Promise) { p.Sig.S ^= 1 }, func(p *api.Promise) { p.Sig = api.Sig{} },
		// A promise that is the log's, but of another certificate.
		func(p *api.Promise) { *p = promised(site(2, "a.b"), p.Log).Proms[0] },
		func(p *api.Promise) { *p = promised(site(1, "c.b"), p.Log).Proms[0] },
	} {
		for at := range 2 {
			c := promised(site(1, "a.b"), 0, 1)
			change(&c.Proms[at])
			is("a wrong promise", api.ErrPromise, c, keysOf(0, 1, 2))
			c = promised(site(1, "a.b"), 0, 1, 2)
			change(&c.Proms[at])
			is("a wrong promise, and two others", api.OK, c, keysOf(0, 1, 2))
			if c.Proms[at].Log != at {
				t.Fatal(k)
			}
		}
	}
}

func TestMayOfAuthorities(t *testing.T) {
	may(t, "an authority", api.ErrRule, body(promised(authority(1), 0, 1)), keysOf(0, 1), table())
	may(t, "an authority, and no table", api.ErrRule, body(promised(authority(1), 0, 1)), keysOf(0, 1), api.Table{})
	may(t, "an authority, with one promise", api.ErrPromise, body(promised(authority(1), 0)), keysOf(0, 1), table())
}

func TestMayOfThePolicy(t *testing.T) {
	is := func(what string, want api.Errno, change func(c *api.Cert)) {
		t.Helper()
		c := site(1, "a.b")
		change(&c)
		may(t, what, want, body(promised(c, 0, 1)), keysOf(0, 1), table())
	}
	is("another name that is allowed", api.OK, func(c *api.Cert) { c.Names = []string{"y.x.b"} })
	is("several names that are allowed", api.OK, func(c *api.Cert) { c.Names = []string{"y.b", "a.b", "c.b"} })
	is("a name of which none decides", api.ErrRule, func(c *api.Cert) { c.Names = []string{"a.c"} })
	is("a name that is refused", api.ErrRule, func(c *api.Cert) { c.Names = []string{"x.b"} })
	is("names of which one is refused", api.ErrRule, func(c *api.Cert) { c.Names = []string{"a.b", "x.b"} })
	is("names of which one is not decided", api.ErrRule, func(c *api.Cert) { c.Names = []string{"a.b", "b"} })
	is("the least key", api.OK, func(c *api.Cert) { c.Key = 1000 })
	is("a lesser key", api.ErrRule, func(c *api.Cert) { c.Key = 999 })
	is("the longest life", api.OK, func(c *api.Cert) { c.From, c.Until = 100, 190 })
	is("a longer life", api.ErrRule, func(c *api.Cert) { c.From, c.Until = 100, 191 })
	is("the shortest life", api.OK, func(c *api.Cert) { c.From, c.Until = 0, 1 })
	is("a late life", api.OK, func(c *api.Cert) { c.From, c.Until = api.MaxTime-1, api.MaxTime })
	is("a whole life", api.ErrRule, func(c *api.Cert) { c.From, c.Until = 0, api.MaxTime })
	b := right(1)
	for _, change := range []func(t *api.Table){func(t *api.Table) { t.Nodes = t.Nodes[:2] }, func(t *api.Table) { t.Rules[0].LifeMax = -1 }, func(t *api.Table) { t.Rules[1].Pats = []string{"*.b"} }, func(t *api.Table) { *t = api.Table{} }, func(t *api.Table) { t.Rules = make([]api.Rule, 33) }} {
		wrong := table()
		change(&wrong)
		want := policy.Check(wrong)
		if want == api.OK {
			t.Fatal("a table")
		}
		may(t, "no table", want, b, keysOf(0, 1), wrong)
		may(t, "no table, and one promise", api.ErrPromise, b, keysOf(0), wrong)
		may(t, "no table, and a name that is refused", want, body(promised(site(1, "x.b"), 0, 1)), keysOf(0, 1), wrong)
	}
}

// P25.3

func commits(t *testing.T, what string, s api.Signer, session int, b []byte, want api.Signer, wantE api.Errno) api.Signer {
	t.Helper()
	var commit api.Share
	if wantE == api.OK {
		commit, _ = quorum.Commit(s.Share, session, b)
	}
	x, c, e := signer.Commit(s, session, b, keysOf(0, 1), table())
	if !same(x, want) || c != commit || e != wantE {
		t.Errorf("%s: Commit(%v, %d) is %v, %v, %d, not %v, %v, %d", what, s, session, x, c, e, want, commit, wantE)
	}
	return x
}

// with is a signer that has done one thing more, all of which is safe.
func with(s api.Signer, d api.Done) api.Signer {
	return changed(s, func(s *api.Signer) {
		s.Done = append(s.Done, d)
		s.Store = api.Store{Safe: slices.Concat(s.Store.Safe, s.Store.Open, frame(bytesOf(d)))}
	})
}

func TestCommit(t *testing.T) {
	for _, session := range []int{0, 1, 5, api.MaxTime - 1, api.MaxTime} {
		for _, serial := range []int{0, 3, api.MaxTime} {
			for _, s := range []api.Signer{knowing(0), some(), knowing(0, three()...), knowing(156, three()...)} {
				b := right(serial)
				x := commits(t, "something new", s, session, b, with(s, doneOf(session, serial, b)), api.OK)
				commits(t, "again", x, session, b, x, api.OK)
			}
		}
	}
}

func TestCommitAgain(t *testing.T) {
	// What was done is told again, and nothing is made safe that was not.
	for _, open := range []int{0, 52, 60, 156} {
		s := knowing(open, three()...)
		commits(t, "again", s, 7, right(1), s, api.OK)
		commits(t, "again", s, 9, right(2), s, api.OK)
		commits(t, "again", s, 8, right(2), s, api.OK)
		commits(t, "one body in another session", s, 10, right(1), with(s, doneOf(10, 1, right(1))), api.OK)
		commits(t, "one body in another session", s, 10, right(2), with(s, doneOf(10, 2, right(2))), api.OK)
		for _, session := range []int{7, 8, 9, 10} {
			commits(t, "another body of a serial number", s, session, other(1), api.Signer{}, api.ErrTwice)
			commits(t, "another body of a serial number", s, session, other(2), api.Signer{}, api.ErrTwice)
			if session < 10 {
				commits(t, "another body in a session", s, session, right(3), api.Signer{}, api.ErrTwice)
			}
		}
		commits(t, "the body of another session", s, 7, right(2), api.Signer{}, api.ErrTwice)
		commits(t, "the body of another session", s, 9, right(1), api.Signer{}, api.ErrTwice)
	}
	// The same promises in another number of them are another body.
	s := commits(t, "first", knowing(0), 5, right(1), with(knowing(0), doneOf(5, 1, right(1))), api.OK)
	commits(t, "with a promise more", s, 6, body(promised(site(1, "a.b"), 0, 1, 2)), api.Signer{}, api.ErrTwice)
}

func TestCommitOfWhatMayNotBe(t *testing.T) {
	bad := func(s api.Signer) api.Signer { return changed(s, func(s *api.Signer) { s.Bad = true }) }
	for _, s := range []api.Signer{down(framesOf(three()...), nil), bad(down(nil, nil))} {
		for _, session := range []int{5, -1} {
			commits(t, "not up", s, session, right(3), api.Signer{}, api.ErrState)
			commits(t, "not up", s, session, nil, api.Signer{}, api.ErrState)
		}
	}
	for _, session := range noNumbers() {
		for _, b := range [][]byte{right(3), other(1), right(1), nil} {
			commits(t, "no session", some(), session, b, api.Signer{}, api.ErrArg)
			commits(t, "no session", bad(some()), session, b, api.Signer{}, api.ErrArg)
		}
	}
	// What it must not sign is told ahead of what it has signed.
	commits(t, "what it must not sign", some(), 7, body(promised(site(1, "x.b"), 0, 1)), api.Signer{}, api.ErrRule)
	commits(t, "what it must not sign", some(), 7, body(promised(site(1, "a.b"), 0)), api.Signer{}, api.ErrPromise)
	commits(t, "what it must not sign", some(), 7, nil, api.Signer{}, api.ErrShort)
}

func TestCommitOfABadOne(t *testing.T) {
	s := changed(some(), func(s *api.Signer) { s.Bad = true })
	for _, session := range []int{0, 7, 8, api.MaxTime} {
		for _, b := range [][]byte{nil, []byte("anything"), right(1), other(1), right(3), body(promised(site(1, "x.b")))} {
			commits(t, "whatever it is told", s, session, b, s, api.OK)
		}
	}
}

func TestCommitOfAFullStore(t *testing.T) {
	var all []api.Done
	for k := range 1260 {
		all = append(all, api.Done{Session: 100 + k, Serial: 100 + k})
	}
	full, room := knowing(0, all...), knowing(520, all[:1259]...)
	commits(t, "no room", full, 5, right(1), api.Signer{}, api.ErrBound)
	last := commits(t, "room for one", room, 5, right(1), with(room, doneOf(5, 1, right(1))), api.OK)
	commits(t, "no room, but it is there", last, 5, right(1), last, api.OK)
	commits(t, "no room, and another one", last, 5, right(2), api.Signer{}, api.ErrTwice)
	commits(t, "no room", last, 6, right(1), api.Signer{}, api.ErrBound)
	commits(t, "no room, and what it must not sign", last, 6, other(1)[1:], api.Signer{}, api.ErrForm)
}

// P25.4

// meeting is a session of the first and the third one of the crew, about a body.
func meeting(session int, b []byte) []api.Share {
	_, shares := crew()
	first, _ := quorum.Commit(shares[0], session, b)
	third, _ := quorum.Commit(shares[2], session, b)
	return []api.Share{first, third}
}

func parts(t *testing.T, what string, c api.Crew, s api.Signer, session int, b []byte, commits []api.Share, wantE api.Errno) {
	t.Helper()
	want, part := api.Signer{}, api.Share{}
	if wantE == api.OK {
		want = s
		part, _ = quorum.Part(c, s.Share, session, b, commits)
	}
	if x, p, e := signer.Part(c, s, session, b, commits); !same(x, want) || p != part || e != wantE {
		t.Errorf("%s: Part(%v, %d) is %v, %v, %d, not %v, %v, %d", what, s, session, x, p, e, want, part, wantE)
	}
}

func TestPart(t *testing.T) {
	c, _ := crew()
	for _, open := range []int{0, 60, 156} {
		s := knowing(open, three()...)
		bad := changed(s, func(s *api.Signer) { s.Bad = true })
		for _, session := range []int{0, 7, 8, 9, 10} {
			for k, b := range [][]byte{right(1), right(2), other(1), right(3), nil} {
				e := api.ErrState
				if session == 7 && k == 0 || (session == 8 || session == 9) && k == 1 {
					e = api.OK
				}
				parts(t, "an honest one", c, s, session, b, meeting(session, b), e)
				parts(t, "a bad one", c, bad, session, b, meeting(session, b), api.OK)
			}
		}
	}
	for _, s := range []api.Signer{down(framesOf(three()...), nil), changed(down(nil, nil), func(s *api.Signer) { s.Bad = true })} {
		parts(t, "not up", c, s, 7, right(1), meeting(7, right(1)), api.ErrState)
		parts(t, "not up", api.Crew{}, s, -1, nil, nil, api.ErrState)
	}
}

func TestErrorsOfPart(t *testing.T) {
	c, shares := crew()
	b := right(1)
	second, _ := quorum.Commit(shares[1], 7, b)
	all := meeting(7, b)
	for _, bad := range []bool{false, true} {
		s := changed(some(), func(s *api.Signer) { s.Bad = bad })
		wrong := c
		wrong.T = 0
		parts(t, "no crew", wrong, s, 7, b, all, api.ErrArg)
		wrong = c
		wrong.Key = 4
		parts(t, "another crew's key", wrong, s, 7, b, all, api.ErrPart)
		parts(t, "out of order", c, s, 7, b, []api.Share{all[1], all[0]}, api.ErrArg)
		parts(t, "too few", c, s, 7, b, all[:1], api.ErrFew)
		parts(t, "without its own", c, s, 7, b, []api.Share{second, all[1]}, api.ErrPart)
		stranger := changed(s, func(s *api.Signer) { s.Share = shares[1] })
		parts(t, "of another share", c, stranger, 7, b, all, api.ErrPart)
	}
	bad := changed(some(), func(s *api.Signer) { s.Bad = true })
	for _, session := range noNumbers() {
		parts(t, "no session", c, bad, session, b, all, api.ErrArg)
		parts(t, "no session", c, some(), session, b, all, api.ErrState)
	}
	wrong := c
	wrong.Key = 4
	parts(t, "what it has not committed to, of another crew", wrong, some(), 5, b, all, api.ErrState)
	parts(t, "what it has not committed to, of nobody", c, some(), 7, right(2), nil, api.ErrState)
}

// P25.5

func crashed(t *testing.T, s api.Signer, keep int, want api.Signer, wantE api.Errno) api.Signer {
	t.Helper()
	x, e := signer.Crash(s, keep)
	if !same(x, want) || e != wantE {
		t.Errorf("Crash(%v, %d) is %v, %d, not %v, %d", s, keep, x, e, want, wantE)
	}
	return x
}

func isBack(t *testing.T, s api.Signer, want api.Signer, wantE api.Errno) api.Signer {
	t.Helper()
	x, e := signer.Back(s)
	if !same(x, want) || e != wantE {
		t.Errorf("Back(%v) is %v, %d, not %v, %d", s, x, e, want, wantE)
	}
	return x
}

func TestCrashAndBack(t *testing.T) {
	all := framesOf(three()...)
	for _, bad := range []bool{false, true} {
		for _, open := range []int{0, 1, 52, 60, 156} {
			s := changed(knowing(open, three()...), func(s *api.Signer) { s.Bad = bad })
			for keep := range open + 3 {
				kept := len(all) - open + min(keep, open)
				want := changed(down(all[:kept], nil), func(s *api.Signer) { s.Bad = bad })
				x := crashed(t, s, keep, want, api.OK)
				whole := kept / 52
				isBack(t, x, changed(knowing(0, three()[:whole]...), func(s *api.Signer) { s.Bad = bad }), api.OK)
				crashed(t, x, keep, api.Signer{}, api.ErrState)
			}
			crashed(t, s, math.MaxInt, changed(down(all, nil), func(s *api.Signer) { s.Bad = bad }), api.OK)
			for _, keep := range []int{math.MinInt, -1} {
				crashed(t, s, keep, api.Signer{}, api.ErrArg)
			}
			isBack(t, s, api.Signer{}, api.ErrState)
		}
	}
	crashed(t, down(all, nil), -1, api.Signer{}, api.ErrState)
}

func TestBackOfStores(t *testing.T) {
	all := framesOf(three()...)
	isBack(t, down(nil, nil), knowing(0), api.OK)
	isBack(t, down([]byte("torn"), []byte("torn")), knowing(0), api.OK)
	one := doneOf(7, 1, right(1))
	isBack(t, down(framesOf(one, one), nil), knowing(0, one, one), api.OK)
	// What is open stays so, and frames are read over both.
	for open := range len(all) + 1 {
		safe := len(all) - open
		isBack(t, down(all[:safe:safe], append(bytes.Clone(all[safe:]), 0, 0)), knowing(open, three()...), api.OK)
	}
	for _, b := range noFrames() {
		isBack(t, down(b, nil), api.Signer{}, api.ErrTorn)
		isBack(t, down(nil, b), api.Signer{}, api.ErrTorn)
		isBack(t, down(append(bytes.Clone(b), 1, 2, 3), nil), api.Signer{}, api.ErrTorn)
		isBack(t, changed(down(b, nil), func(s *api.Signer) { s.Bad = true }), api.Signer{}, api.ErrTorn)
		// What is torn is no frame.
		cut := frame(b[4 : len(b)-16])
		isBack(t, down(cut[:len(cut)-1], nil), knowing(0), api.OK)
	}
}

// P25.6

func TestOneBodyThroughAllCrashes(t *testing.T) {
	c, _ := crew()
	s := knowing(0)
	of, in := make(map[int]string), make(map[int]string)
	tried, committed, step := 0, 0, uint64(1)
	next := func(below int) int {
		step = step*6364136223846793005 + 1442695040888963407
		return int(step>>40) % below
	}
	bodies := [][]byte{right(1), other(1), right(2), other(2), right(3), body(promised(site(4, "x.b"), 0, 1)), body(promised(site(4, "a.b"), 0))}
	serials := []int{1, 1, 2, 2, 3, 4, 4}
	for range 300 {
		session, k := next(6), next(len(bodies))
		tried++
		x, _, e := signer.Commit(s, session, bodies[k], keysOf(0, 1), table())
		if e == api.OK {
			committed++
			if was, there := of[serials[k]]; there && was != string(bodies[k]) {
				t.Fatalf("two bodies of the serial number %d", serials[k])
			}
			if was, there := in[session]; there && was != string(bodies[k]) {
				t.Fatalf("two bodies in the session %d", session)
			}
			if serials[k] == 4 {
				t.Fatalf("what must not be signed")
			}
			of[serials[k]], in[session] = string(bodies[k]), string(bodies[k])
			s = x
		}
		session, k = next(6), next(len(bodies))
		if _, _, e := signer.Part(c, s, session, bodies[k], meeting(session, bodies[k])); (e == api.OK) != (in[session] == string(bodies[k])) {
			t.Fatalf("Part of the session %d tells %d", session, e)
		}
		if next(5) > 0 {
			continue
		}
		s, _ = signer.Crash(s, next(100))
		if s, e = signer.Back(s); e != api.OK {
			t.Fatalf("Back tells %d", e)
		}
	}
	if len(of) != 3 || len(in) != 6 || committed == tried {
		t.Errorf("of %d tried ones %d were signed, of %d serial numbers, in %d sessions", tried, committed, len(of), len(in))
	}
}

// R2

func roomy() api.Signer {
	s := some()
	s.Done, s.Store.Safe, s.Store.Open = slices.Grow(s.Done, 9), slices.Grow(s.Store.Safe, 99), slices.Grow(s.Store.Open, 99)
	return s
}

func spoil(s api.Signer) {
	clear(s.Done[:cap(s.Done)])
	clear(s.Store.Safe[:cap(s.Store.Safe)])
	clear(s.Store.Open[:cap(s.Store.Open)])
}

func TestNothingIsChangedOrShared(t *testing.T) {
	c, _ := crew()
	off := func(s api.Signer) api.Signer {
		s.Up, s.Done = false, nil
		return s
	}
	bad := func(s api.Signer) api.Signer {
		s.Bad = true
		return s
	}
	commit := func(session int, b []byte) func(s api.Signer) api.Signer {
		return func(s api.Signer) api.Signer {
			x, _, _ := signer.Commit(s, session, b, keysOf(0, 1), table())
			return x
		}
	}
	for k, call := range []func(s api.Signer) api.Signer{
		commit(5, right(3)), commit(7, right(1)),
		func(s api.Signer) api.Signer { return commit(5, nil)(bad(s)) },
		func(s api.Signer) api.Signer {
			x, _, _ := signer.Part(c, s, 7, right(1), meeting(7, right(1)))
			return x
		},
		func(s api.Signer) api.Signer { x, _ := signer.Crash(s, 20); return x },
		func(s api.Signer) api.Signer { x, _ := signer.Back(off(s)); return x },
		func(s api.Signer) api.Signer { x, _ := signer.Corrupt(s); return x },
	} {
		s := roomy()
		x := call(s)
		was := copied(x)
		if x.Share != share() {
			t.Fatal(k)
		}
		if !same(s, some()) || s.Done[:4][3] != (api.Done{}) || s.Store.Safe[:97][96] != 0 || s.Store.Open[:61][60] != 0 {
			t.Errorf("call %d changes what is handed in", k)
		}
		spoil(s)
		if !same(x, was) {
			t.Errorf("what call %d has told changes with what was handed in", k)
		}
		s = roomy()
		spoil(call(s))
		if !same(s, some()) {
			t.Errorf("what was handed in changes with what call %d has told", k)
		}
	}
	b := right(3)
	keys, tab := keysOf(0, 1), table()
	signer.Commit(some(), 5, b, keys, tab)
	signer.May(b, keys, tab)
	if !bytes.Equal(b, right(3)) || !slices.Equal(keys, keysOf(0, 1)) || policy.Check(tab) != api.OK {
		t.Errorf("what is handed in is changed")
	}
}

// The chapter's example

func TestExample(t *testing.T) {
	rules, _, _ := rule.Parse([]byte("allow web { *.b; life 90; }"))
	tab, _ := policy.Compile(rules)
	s, e := signer.New(share())
	if e != api.OK {
		t.Fatal(e)
	}
	s, c, e := signer.Commit(s, 7, right(1), keysOf(0, 1), tab)
	commit, _ := quorum.Commit(share(), 7, right(1))
	if c != commit || e != api.OK || !slices.Equal(s.Done, []api.Done{doneOf(7, 1, right(1))}) {
		t.Errorf("Commit is %v, %v, %d", s, c, e)
	}
	s, _ = signer.Crash(s, 0)
	if s, e = signer.Back(s); e != api.OK || !slices.Equal(s.Done, []api.Done{doneOf(7, 1, right(1))}) {
		t.Errorf("Back is %v, %d", s, e)
	}
	for _, x := range []struct {
		b    []byte
		keys []api.Key
		e    api.Errno
	}{{other(1), keysOf(0, 1), api.ErrTwice}, {body(promised(site(2, "a.c"), 0, 1)), keysOf(0, 1), api.ErrRule}, {right(1), keysOf(1), api.ErrPromise}} {
		if y, d, e := signer.Commit(s, 8, x.b, x.keys, tab); !same(y, api.Signer{}) || d != (api.Share{}) || e != x.e {
			t.Errorf("Commit is %v, %v, %d, not %d", y, d, e, x.e)
		}
	}
}
