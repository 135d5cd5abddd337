package issue_test

import (
	"bytes"
	"math"
	"slices"
	"strconv"
	"strings"
	"testing"

	"greatseal/api"
	"greatseal/cert"
	"greatseal/issue"
	"greatseal/logd"
	"greatseal/merkle"
	"greatseal/policy"
	"greatseal/quorum"
	"greatseal/rule"
	"greatseal/sign"
	"greatseal/signer"
)

func noNumbers() []int {
	return []int{math.MinInt, -2, -1, api.MaxTime + 1, api.MaxTime + 2, math.MaxInt}
}

func siteKey() uint64 {
	key, _ := sign.Public(sign.Secret([]byte("site")))
	return key
}

// site is a draft.
func site(serial int, all ...string) api.Cert {
	return api.Cert{Serial: serial, Issuer: "greatseal", Key: siteKey(), Names: all, From: 10, Until: 60}
}

// logOf is a log with two leaves, one of which is hidden, and one that waits.
func logOf(id int) api.Log {
	l, _ := logd.New(id, []byte{byte(id)}, 20)
	for k, text := range []string{"one", "two", "three"} {
		l, _, _ = logd.Add(l, []byte(text), k)
		if k == 1 {
			l, _ = logd.Merge(l)
			l, _ = logd.Hide(l)
		}
	}
	return l
}

func logsOf(ids ...int) []api.Log {
	var l []api.Log
	for _, id := range ids {
		l = append(l, logOf(id))
	}
	return l
}

// fullLog is one that takes in nothing more.
func fullLog(id int) api.Log {
	l := logOf(id)
	for k := range 253 {
		l.L = append(l.L, api.Leaf{Body: []byte("body " + strconv.Itoa(k))})
	}
	return l
}

// wrongLog may not be.
func wrongLog(id int) api.Log {
	l := logOf(id)
	l.Delay = -1
	return l
}

func keysOf(ids ...int) []api.Key {
	var keys []api.Key
	for _, id := range ids {
		key, _ := logd.Public(logOf(id))
		keys = append(keys, key)
	}
	return keys
}

// crew is one of 3 of 5, and its signers, which have signed nothing.
func crew() (api.Crew, []api.Signer) {
	c, shares, _ := quorum.Deal([]byte("crew"), 3, 5)
	var l []api.Signer
	for _, s := range shares {
		one, _ := signer.New(s)
		l = append(l, one)
	}
	return c, l
}

func table() api.Table {
	rules, _, _ := rule.Parse([]byte("allow all { *.b; life 90; } refuse one { x.b; }"))
	t, _ := policy.Compile(rules)
	return t
}

func promised(c api.Cert) api.Cert {
	_, c, _ = issue.Promises(logsOf(0, 1), c, 12)
	return c
}

func sameLeaf(a, b api.Leaf) bool { return bytes.Equal(a.Body, b.Body) && a.At == b.At }

func sameLog(a, b api.Log) bool {
	return a.Id == b.Id && a.Key == b.Key && a.Delay == b.Delay && slices.EqualFunc(a.L, b.L, sameLeaf) && slices.EqualFunc(a.Wait, b.Wait, sameLeaf) && slices.Equal(a.Hide, b.Hide)
}

func sameSigner(a, b api.Signer) bool {
	return a.Share == b.Share && a.Bad == b.Bad && a.Up == b.Up && slices.Equal(a.Done, b.Done) && bytes.Equal(a.Store.Safe, b.Store.Safe) && bytes.Equal(a.Store.Open, b.Store.Open)
}

// P26.1

func drafted(t *testing.T, w api.Wish, serial, now int, issuer string, want api.Cert, wantE api.Errno) {
	t.Helper()
	if c, e := issue.Draft(w, serial, now, issuer); !cert.Same(c, want) || e != wantE {
		t.Errorf("Draft(%v, %d, %d, %q) is %v, %d, not %v, %d", w, serial, now, issuer, c, e, want, wantE)
	}
}

func TestDraft(t *testing.T) {
	eight := strings.Split("a b c d e f g h", " ")
	for _, x := range []struct{ life, serial, now int }{{1, 0, 0}, {5, 3, 3}, {api.MaxTime, 1, 0}, {1, api.MaxTime, api.MaxTime - 1}, {1000, 77, 5}, {api.MaxTime - 5, 1, 5}} {
		for _, all := range [][]string{{"a.b"}, {"z", "a.b"}, eight} {
			for _, key := range []uint64{1, 3, siteKey(), api.Q - 1} {
				for _, issuer := range []string{"!", "greatseal", strings.Repeat("~", 64)} {
					w := api.Wish{Account: 9, Names: all, Key: key, Life: x.life}
					want := api.Cert{Serial: x.serial, Issuer: issuer, Key: key, Names: all, From: x.now, Until: x.now + x.life}
					drafted(t, w, x.serial, x.now, issuer, want, api.OK)
				}
			}
		}
	}
	// Whose wish it is is not asked.
	drafted(t, api.Wish{Account: -1, Names: []string{"a"}, Key: 4, Life: 5}, 3, 3, "g", api.Cert{Serial: 3, Issuer: "g", Key: 4, Names: []string{"a"}, From: 3, Until: 8}, api.OK)
}

func TestDraftOfWhatMayNotBe(t *testing.T) {
	good := api.Wish{Names: []string{"a.b"}, Key: 4, Life: 5}
	none := func(serial, now int, issuer string, change func(w *api.Wish)) {
		t.Helper()
		w := good
		change(&w)
		drafted(t, w, serial, now, issuer, api.Cert{}, api.ErrArg)
	}
	nothing := func(*api.Wish) {}
	for _, n := range noNumbers() {
		none(n, 3, "g", nothing)
		none(3, n, "g", nothing)
		none(3, 3, "g", func(w *api.Wish) { w.Life = n })
		none(3, -n, "g", func(w *api.Wish) { w.Life = n })
		none(3, n, "g", func(w *api.Wish) { w.Life = -n })
		none(3, 5-n, "g", func(w *api.Wish) { w.Life = n })
	}
	none(3, 3, "g", func(w *api.Wish) { w.Life = 0 })
	none(3, 5, "g", func(w *api.Wish) { w.Life = api.MaxTime - 4 })
	none(3, api.MaxTime, "g", func(w *api.Wish) { w.Life = 1 })
	none(3, api.MaxTime+1, "g", func(w *api.Wish) { w.Life = math.MaxInt })
	for _, issuer := range []string{"", " ", "a b", "\x7f", strings.Repeat("a", 65)} {
		none(3, 3, issuer, nothing)
	}
	for _, all := range [][]string{nil, {""}, {"a..b"}, {"*.b"}, {"a", "a"}, strings.Split("a b c d e f g h i", " ")} {
		none(3, 3, "g", func(w *api.Wish) { w.Names = all })
	}
	for _, key := range []uint64{0, api.Q, math.MaxUint64} {
		none(3, 3, "g", func(w *api.Wish) { w.Key = key })
	}
}

// P26.2

// asked tells that of the logs those at two places promise, and no others.
func asked(t *testing.T, what string, l []api.Log, c api.Cert, now, first, second int) {
	t.Helper()
	pre, _ := cert.Pre(c)
	want := slices.Clone(l)
	var p, q api.Promise
	want[first], p, _ = logd.Add(l[first], pre, now)
	want[second], q, _ = logd.Add(l[second], pre, now)
	d := c
	if p.Log > q.Log {
		p, q = q, p
	}
	d.Proms = []api.Promise{p, q}
	x, y, e := issue.Promises(l, c, now)
	if !slices.EqualFunc(x, want, sameLog) || !cert.Same(y, d) || e != api.OK {
		t.Errorf("%s: Promises is %v, %v, %d, not %v, %v", what, x, y, e, want, d)
	}
	if cert.Check(y) != api.OK {
		t.Errorf("%s: %v may not be", what, y)
	}
}

// refused tells that nothing comes of it.
func refused(t *testing.T, what string, l []api.Log, c api.Cert, now int, want api.Errno) {
	t.Helper()
	if x, d, e := issue.Promises(l, c, now); len(x) != 0 || !cert.Same(d, api.Cert{}) || e != want {
		t.Errorf("%s: Promises is %v, %v, %d, not %d", what, x, d, e, want)
	}
}

func TestPromises(t *testing.T) {
	for _, now := range []int{0, 7, api.MaxTime} {
		for _, x := range []struct {
			l             []api.Log
			first, second int
		}{
			{logsOf(0, 1), 0, 1}, {logsOf(1, 0), 0, 1}, {logsOf(9, 3, 5), 0, 1}, {logsOf(0, 1, 2, 3), 0, 1},
			{logsOf(0, 0, 1), 0, 2}, {logsOf(5, 5, 5, 5, 2, 1), 0, 4}, {append(logsOf(3), wrongLog(3), logOf(1)), 0, 2},
			{append([]api.Log{fullLog(0)}, logsOf(1, 2, 3)...), 1, 2}, {append([]api.Log{fullLog(0), fullLog(1)}, logsOf(3, 2)...), 2, 3},
			{[]api.Log{logOf(4), fullLog(0), logOf(3)}, 0, 2}, {[]api.Log{wrongLog(4), logOf(0), wrongLog(7), fullLog(8), logOf(0), logOf(3), logOf(9)}, 1, 5},
			// One that did not tell OK counts for nothing: another one of its Id may be asked.
			{[]api.Log{fullLog(0), logOf(0), logOf(1)}, 1, 2}, {[]api.Log{logOf(1), fullLog(0), logOf(0)}, 0, 2},
		} {
			asked(t, "two logs", x.l, site(1, "a.b"), now, x.first, x.second)
		}
	}
	// Promises and a signature that it has do not matter, but for form; the signature stays.
	c := promised(site(1, "a.b"))
	c.Sig = api.Sig{E: 5, S: 6}
	asked(t, "other promises", logsOf(2, 3, 4), c, 7, 0, 1)
	c.Proms = nil
	asked(t, "a signature", logsOf(2, 3), c, 7, 0, 1)
	ca := api.Cert{Serial: 1, Issuer: "g", Subject: "h", Key: 4, From: 1, Until: 2, Ca: true, Depth: 3, Permit: []string{"*.b", "c"}}
	asked(t, "an authority", logsOf(2, 3), ca, 7, 0, 1)
}

func TestPromisesAgain(t *testing.T) {
	// Who has it already promises it as it did.
	l, c, _ := issue.Promises(logsOf(0, 1, 2), site(1, "a.b"), 7)
	x, d, e := issue.Promises(l, site(1, "a.b"), 90)
	if !slices.EqualFunc(x, l, sameLog) || !cert.Same(c, d) || e != api.OK {
		t.Errorf("Promises again is %v, %v, %d", x, d, e)
	}
	full := []api.Log{fullLog(0), fullLog(1), fullLog(2)}
	full[2].L = full[2].L[:200]
	full[2], _, _ = logd.Add(full[2], must(cert.Pre(site(1, "a.b"))), 3)
	for len(full[2].L) < 252 {
		full[2].L = append(full[2].L, api.Leaf{Body: []byte("again " + strconv.Itoa(len(full[2].L)))})
	}
	if e := logd.Check(full[2]); e != api.OK {
		t.Fatal(e)
	}
	asked(t, "a full log that has it", append(full, logOf(3)), site(1, "a.b"), 7, 2, 3)
}

func must(b []byte, e api.Errno) []byte { return b }

func TestPromisesOfTooFew(t *testing.T) {
	for _, l := range [][]api.Log{nil, {}, logsOf(0), logsOf(0, 0), logsOf(3, 3, 3, 3), {logOf(0), fullLog(1)}, {fullLog(0), fullLog(1)}, {wrongLog(0), logOf(1)}, {logOf(0), fullLog(1), logOf(0), wrongLog(2)}, {fullLog(0), logOf(1), logOf(1)}} {
		refused(t, "too few logs", l, site(1, "a.b"), 7, api.ErrPromise)
	}
	for _, now := range noNumbers() {
		refused(t, "no time", logsOf(0, 1, 2), site(1, "a.b"), now, api.ErrPromise)
		refused(t, "no certificate", logsOf(0, 1, 2), api.Cert{}, now, api.ErrArg)
	}
	for _, change := range []func(c *api.Cert){func(c *api.Cert) { c.Serial = -1 }, func(c *api.Cert) { c.Names = nil }, func(c *api.Cert) { c.Sig.E = api.R }, func(c *api.Cert) { c.Proms = slices.Repeat(c.Proms, 2) }, func(c *api.Cert) { c.Until = c.From }} {
		c := promised(site(1, "a.b"))
		change(&c)
		refused(t, "no certificate", logsOf(0, 1, 2), c, 7, api.ErrArg)
		refused(t, "no certificate, and no logs", nil, c, 7, api.ErrArg)
	}
}

// P26.3

// signs tells that of the signers those at some places sign, and no others are changed.
func signs(t *testing.T, what string, l []api.Signer, session int, c api.Cert, places ...int) ([]api.Signer, api.Cert) {
	t.Helper()
	all, _ := crew()
	body, _ := cert.Body(c)
	want := slices.Clone(l)
	var commits, parts []api.Share
	for _, at := range places {
		x, commit, e := signer.Commit(l[at], session, body, keysOf(0, 1), table())
		if e != api.OK {
			t.Fatalf("%s: the signer at %d tells %d", what, at, e)
		}
		want[at] = x
		commits = append(commits, commit)
	}
	for _, at := range places {
		_, part, _ := signer.Part(all, want[at], session, body, commits)
		parts = append(parts, part)
	}
	d := c
	d.Sig, _ = quorum.Combine(all, body, commits, parts)
	x, y, e := issue.Sign(all, l, session, c, keysOf(0, 1), table())
	if !slices.EqualFunc(x, want, sameSigner) || !cert.Same(y, d) || e != api.OK {
		t.Errorf("%s: Sign is %v, %v, %d, not %v, %v", what, x, y, e, want, d)
	}
	if e := sign.Check(all.Key, body, y.Sig); e != api.OK {
		t.Errorf("%s: the signature is not right: %d", what, e)
	}
	return x, y
}

// fails tells that nothing comes of it.
func fails(t *testing.T, what string, c api.Crew, l []api.Signer, session int, d api.Cert, want api.Errno) {
	t.Helper()
	if x, y, e := issue.Sign(c, l, session, d, keysOf(0, 1), table()); len(x) != 0 || !cert.Same(y, api.Cert{}) || e != want {
		t.Errorf("%s: Sign is %v, %v, %d, not %d", what, x, y, e, want)
	}
}

func crash(s api.Signer) api.Signer {
	s, _ = signer.Crash(s, 0)
	return s
}

func corrupt(s api.Signer) api.Signer {
	s, _ = signer.Corrupt(s)
	return s
}

// busy is a signer that has signed another body of the serial number 1, in the session 50.
func busy(s api.Signer) api.Signer {
	body, _ := cert.Body(promised(site(1, "c.b")))
	s, _, _ = signer.Commit(s, 50, body, keysOf(0, 1), table())
	return s
}

// each is the crew's signers, some of which are made others.
func each(of map[int]func(s api.Signer) api.Signer) []api.Signer {
	_, l := crew()
	for at, change := range of {
		l[at] = change(l[at])
	}
	return l
}

type made = map[int]func(s api.Signer) api.Signer

func TestSign(t *testing.T) {
	c := promised(site(1, "a.b"))
	for _, session := range []int{0, 7, api.MaxTime} {
		signs(t, "all are up", each(nil), session, c, 0, 1, 2)
		signs(t, "one is not up", each(made{0: crash}), session, c, 1, 2, 3)
		signs(t, "two are not up", each(made{1: crash, 3: crash}), session, c, 0, 2, 4)
		signs(t, "two refuse", each(made{0: busy, 2: busy}), session, c, 1, 3, 4)
		signs(t, "the last ones are not up", each(made{3: crash, 4: busy}), session, c, 0, 1, 2)
		signs(t, "one is bad", each(made{1: corrupt}), session, c, 0, 1, 2)
		signs(t, "all are bad", each(made{0: corrupt, 1: corrupt, 2: corrupt}), session, c, 0, 1, 2)
		signs(t, "one refuses, one is bad, one is not up", each(made{0: busy, 1: corrupt, 2: crash}), session, c, 1, 3, 4)
		signs(t, "one is bad, that would refuse", each(made{0: func(s api.Signer) api.Signer { return corrupt(busy(s)) }}), session, c, 0, 1, 2)
		signs(t, "one may not be", each(made{0: func(s api.Signer) api.Signer {
			s.Done = []api.Done{{}}
			return s
		}}), session, c, 1, 2, 3)
	}
	_, l := crew()
	signs(t, "a crew of whom only some are there", l[1:4], 7, c, 0, 1, 2)
	// A signature that it has does not matter.
	d := c
	d.Sig = api.Sig{E: 5, S: 6}
	signs(t, "with another signature", l, 7, d, 0, 1, 2)
}

func TestSignAgain(t *testing.T) {
	c := promised(site(1, "a.b"))
	l, d := signs(t, "first", each(nil), 7, c, 0, 1, 2)
	x, y := signs(t, "again", l, 7, c, 0, 1, 2)
	if !slices.EqualFunc(x, l, sameSigner) || !cert.Same(y, d) {
		t.Errorf("Sign again is %v, %v", x, y)
	}
	all, _ := crew()
	// Of another body of that serial number, or in that session, three of five refuse.
	fails(t, "the same serial number", all, l, 8, promised(site(1, "c.b")), api.ErrCrew)
	fails(t, "the same session", all, l, 7, promised(site(2, "a.b")), api.ErrCrew)
	l[1] = corrupt(l[1])
	signs(t, "the same serial number, with a bad one", l, 8, promised(site(1, "c.b")), 1, 3, 4)
	signs(t, "the same session, with a bad one", l, 7, promised(site(2, "a.b")), 1, 3, 4)
	l[3] = crash(l[3])
	fails(t, "the same serial number, with a bad one", all, l, 8, promised(site(1, "c.b")), api.ErrCrew)
	signs(t, "another one", l, 8, promised(site(2, "a.b")), 0, 1, 2)
}

func TestSignOfTooFew(t *testing.T) {
	c := promised(site(1, "a.b"))
	all, l := crew()
	fails(t, "nobody", all, nil, 7, c, api.ErrCrew)
	fails(t, "two", all, l[:2], 7, c, api.ErrCrew)
	fails(t, "three that are not up", all, each(made{0: crash, 2: crash, 4: crash}), 7, c, api.ErrCrew)
	fails(t, "three that refuse", all, each(made{0: busy, 1: busy, 2: busy}), 7, c, api.ErrCrew)
	fails(t, "one of each", all, each(made{0: busy, 1: crash, 4: crash}), 7, c, api.ErrCrew)
	for _, session := range noNumbers() {
		fails(t, "no session", all, l, session, c, api.ErrCrew)
	}
	// What none of them may sign.
	for _, d := range []api.Cert{site(1, "a.b"), promised(site(1, "x.b")), promised(site(1, "a.c"))} {
		fails(t, "what the policy refuses, or no logs promise", all, l, 7, d, api.ErrCrew)
		signs(t, "the same, of bad ones", each(made{0: corrupt, 2: corrupt, 4: corrupt}), 7, d, 0, 2, 4)
	}
	if x, d, e := issue.Sign(all, l, 7, c, keysOf(0), table()); len(x) != 0 || !cert.Same(d, api.Cert{}) || e != api.ErrCrew {
		t.Errorf("with one key Sign is %v, %v, %d", x, d, e)
	}
	if x, d, e := issue.Sign(all, l, 7, c, keysOf(0, 1), api.Table{}); len(x) != 0 || !cert.Same(d, api.Cert{}) || e != api.ErrCrew {
		t.Errorf("without a policy Sign is %v, %v, %d", x, d, e)
	}
}

func TestErrorsOfSign(t *testing.T) {
	c := promised(site(1, "a.b"))
	all, l := crew()
	wrong := all
	wrong.T = 0
	fails(t, "no crew", wrong, l, 7, c, api.ErrArg)
	wrong = all
	wrong.Key = 4
	fails(t, "another crew's key", wrong, l, 7, c, api.ErrPart)
	fails(t, "another crew's key, and no certificate", wrong, l, 7, api.Cert{}, api.ErrPart)
	fails(t, "no certificate, and nobody", all, nil, 7, api.Cert{}, api.ErrArg)
	// What signers that are no crew tell each other.
	fails(t, "one twice", all, []api.Signer{l[0], l[0], l[1]}, 7, c, api.ErrArg)
	fails(t, "out of order", all, []api.Signer{l[1], l[0], l[2]}, 7, c, api.ErrArg)
	stranger := l[2]
	stranger.Share.X ^= 1
	fails(t, "another share", all, []api.Signer{l[0], l[1], stranger, l[3]}, 7, c, api.ErrPart)
	stranger.Share.Id = 6
	fails(t, "a sixth one", all, []api.Signer{l[0], l[1], stranger, l[3]}, 7, c, api.ErrArg)
	// Whoever stands behind those that are enough is not asked.
	signs(t, "a wrong one behind", []api.Signer{l[0], l[1], l[2], stranger, l[0]}, 7, c, 0, 1, 2)
}

// P26.4

func TestKeys(t *testing.T) {
	for _, ids := range [][]int{nil, {0}, {3, 1, 2}, {1, 1}, {api.MaxTime, 0}} {
		if keys, e := issue.Keys(logsOf(ids...)); !slices.Equal(keys, keysOf(ids...)) || e != api.OK {
			t.Errorf("Keys of %v is %v, %d", ids, keys, e)
		}
	}
	full := fullLog(0)
	full.L = append(full.L, api.Leaf{Body: []byte("one more")})
	for _, x := range []struct {
		l []api.Log
		e api.Errno
	}{{[]api.Log{wrongLog(0)}, api.ErrArg}, {[]api.Log{logOf(0), full}, api.ErrBound}, {[]api.Log{logOf(0), full, wrongLog(1)}, api.ErrBound}, {[]api.Log{wrongLog(1), full}, api.ErrArg}, {[]api.Log{logOf(0), logOf(1), wrongLog(2), logOf(3)}, api.ErrArg}} {
		if keys, e := issue.Keys(x.l); len(keys) != 0 || e != x.e {
			t.Errorf("Keys is %v, %d, not %d", keys, e, x.e)
		}
	}
}

// P26.5

func TestFromAWishOn(t *testing.T) {
	all, signers := crew()
	logs := logsOf(2, 5, 0)
	keys, _ := issue.Keys(logs)
	for serial, name := range []string{"a.b", "c.b", "d.e.b"} {
		c, e := issue.Draft(api.Wish{Names: []string{name}, Key: siteKey(), Life: 30}, serial, 12, "greatseal")
		if e != api.OK {
			t.Fatal(e)
		}
		if logs, c, e = issue.Promises(logs, c, 12); e != api.OK {
			t.Fatal(e)
		}
		if signers, c, e = issue.Sign(all, signers, serial, c, keys, table()); e != api.OK {
			t.Fatal(e)
		}
		body, _ := cert.Body(c)
		if e := sign.Check(all.Key, body, c.Sig); e != api.OK {
			t.Errorf("the signature is not right: %d", e)
		}
		leaf, _ := cert.Leaf(c)
		pre, _ := cert.Pre(c)
		for at, l := range logs {
			waits := slices.ContainsFunc(l.Wait, func(x api.Leaf) bool { return bytes.Equal(x.Body, pre) })
			if waits != (at < 2) || leaf != merkle.Leaf(pre) {
				t.Errorf("in the log at %d it waits: %t", at, waits)
			}
		}
		for _, p := range c.Proms {
			at := slices.IndexFunc(keys, func(k api.Key) bool { return k.Log == p.Log })
			if at < 0 || logd.CheckPromise(keys[at], p) != api.OK || p.Leaf != leaf {
				t.Errorf("the promise %v is not right", p)
			}
		}
	}
}

// R2

func copiedLogs(l []api.Log) []api.Log {
	l = slices.Clone(l)
	for k, log := range l {
		l[k].L, l[k].Wait, l[k].Hide = copiedLeaves(log.L), copiedLeaves(log.Wait), slices.Clone(log.Hide)
	}
	return l
}

func copiedLeaves(l []api.Leaf) []api.Leaf {
	l = slices.Clone(l)
	for k, leaf := range l {
		l[k].Body = bytes.Clone(leaf.Body)
	}
	return l
}

func copiedSigners(l []api.Signer) []api.Signer {
	l = slices.Clone(l)
	for k, s := range l {
		l[k].Done, l[k].Store.Safe, l[k].Store.Open = slices.Clone(s.Done), bytes.Clone(s.Store.Safe), bytes.Clone(s.Store.Open)
	}
	return l
}

func copiedCert(c api.Cert) api.Cert {
	c.Names, c.Permit, c.Proms = slices.Clone(c.Names), slices.Clone(c.Permit), slices.Clone(c.Proms)
	return c
}

func spoilLogs(l []api.Log) {
	for _, log := range l {
		for _, some := range [][]api.Leaf{log.L, log.Wait} {
			for _, leaf := range some {
				clear(leaf.Body)
			}
			clear(some[:cap(some)])
		}
		clear(log.Hide[:cap(log.Hide)])
	}
	clear(l)
}

func spoilSigners(l []api.Signer) {
	for _, s := range l {
		clear(s.Done[:cap(s.Done)])
		clear(s.Store.Safe[:cap(s.Store.Safe)])
		clear(s.Store.Open[:cap(s.Store.Open)])
	}
	clear(l)
}

func spoilCert(c api.Cert) {
	clear(c.Names[:cap(c.Names)])
	clear(c.Permit[:cap(c.Permit)])
	clear(c.Proms[:cap(c.Proms)])
}

func TestPromisesChangeAndShareNothing(t *testing.T) {
	for _, c := range []api.Cert{promised(site(1, "a.b")), {Serial: 1, Issuer: "g", Subject: "h", Key: 4, From: 1, Until: 2, Ca: true, Permit: []string{"c"}}} {
		fresh := func() ([]api.Log, api.Cert) { return copiedLogs(logsOf(0, 1, 2)), copiedCert(c) }
		l, d := fresh()
		x, y, _ := issue.Promises(l, d, 7)
		if !slices.EqualFunc(l, logsOf(0, 1, 2), sameLog) || !cert.Same(d, c) {
			t.Errorf("Promises changes what is handed in")
		}
		wasX, wasY := copiedLogs(x), copiedCert(y)
		spoilLogs(l)
		spoilCert(d)
		if !slices.EqualFunc(x, wasX, sameLog) || !cert.Same(y, wasY) {
			t.Errorf("what Promises has told changes with what was handed in")
		}
		l, d = fresh()
		x, y, _ = issue.Promises(l, d, 7)
		spoilLogs(x)
		spoilCert(y)
		if !slices.EqualFunc(l, logsOf(0, 1, 2), sameLog) || !cert.Same(d, c) {
			t.Errorf("what was handed in changes with what Promises has told")
		}
	}
}

func TestSignChangesAndSharesNothing(t *testing.T) {
	all, _ := crew()
	c := promised(site(1, "a.b"))
	// Each has something in its store, of which the last bytes are open.
	half := func(s api.Signer) api.Signer {
		s = busy(s)
		s.Store = api.Store{Safe: s.Store.Safe[:40], Open: bytes.Clone(s.Store.Safe[40:])}
		return s
	}
	bad := func(s api.Signer) api.Signer { return corrupt(half(s)) }
	fresh := func() ([]api.Signer, api.Cert) {
		return copiedSigners(each(made{0: half, 1: bad, 2: bad, 3: bad, 4: half})), copiedCert(c)
	}
	was, _ := fresh()
	l, d := fresh()
	x, y, e := issue.Sign(all, l, 7, d, keysOf(0, 1), table())
	if e != api.OK || !slices.EqualFunc(l, was, sameSigner) || !cert.Same(d, c) {
		t.Errorf("Sign changes what is handed in, or tells %d", e)
	}
	wasX, wasY := copiedSigners(x), copiedCert(y)
	spoilSigners(l)
	spoilCert(d)
	if !slices.EqualFunc(x, wasX, sameSigner) || !cert.Same(y, wasY) {
		t.Errorf("what Sign has told changes with what was handed in")
	}
	l, d = fresh()
	x, y, _ = issue.Sign(all, l, 7, d, keysOf(0, 1), table())
	spoilSigners(x)
	spoilCert(y)
	if !slices.EqualFunc(l, was, sameSigner) || !cert.Same(d, c) {
		t.Errorf("what was handed in changes with what Sign has told")
	}
	w := api.Wish{Names: []string{"a.b", "c"}, Key: 4, Life: 5}
	draft, _ := issue.Draft(w, 1, 1, "g")
	w.Names[0] = "zz"
	if draft.Names[0] != "a.b" {
		t.Errorf("a draft changes with the wish")
	}
	draft.Names[1] = "yy"
	if w.Names[1] != "c" {
		t.Errorf("a wish changes with the draft")
	}
	ca := api.Cert{Serial: 1, Issuer: "g", Subject: "h", Key: 4, From: 1, Until: 2, Ca: true, Permit: []string{"c"}}
	_, signed, _ := issue.Sign(all, each(made{0: corrupt, 1: corrupt, 2: corrupt}), 7, ca, nil, api.Table{})
	signed.Permit[0] = "zz"
	if ca.Permit[0] != "c" {
		t.Errorf("a certificate changes with the one that was signed")
	}
}

// The chapter's examples

func TestExamples(t *testing.T) {
	c, e := issue.Draft(api.Wish{Names: []string{"a.b"}, Key: 4, Life: 5}, 1, 3, "greatseal")
	if c.From != 3 || c.Until != 8 || e != api.OK {
		t.Errorf("Draft is %v, %d", c, e)
	}
	refused(t, "one log alone", logsOf(0), c, 3, api.ErrPromise)
	all, l := crew()
	fails(t, "fewer up than enough", all, append(l[:2:2], crash(l[2]), crash(l[3]), crash(l[4])), 3, promised(site(1, "a.b")), api.ErrCrew)
}
