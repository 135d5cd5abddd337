package report_test

import (
	"bytes"
	"math"
	"slices"
	"strconv"
	"testing"

	"greatseal/api"
	"greatseal/cert"
	"greatseal/cyclic"
	"greatseal/der"
	"greatseal/issue"
	"greatseal/logd"
	"greatseal/merkle"
	"greatseal/policy"
	"greatseal/quorum"
	"greatseal/report"
	"greatseal/rule"
	"greatseal/sign"
	"greatseal/signer"
)

const delay = 5

func secret(log int) uint64 { return sign.Secret([]byte{byte(log)}) }

func keyOf(log int) api.Key {
	public, _ := sign.Public(secret(log))
	return api.Key{Log: log, Key: public, Delay: delay}
}

// keys are those of the logs 2, 0, 3.
func keys() []api.Key { return []api.Key{keyOf(2), keyOf(0), keyOf(3)} }

func bytesOf(kind string, numbers ...uint64) []byte {
	b := []byte(kind)
	for _, n := range numbers {
		for k := range 8 {
			b = append(b, byte(n>>(56-8*k)))
		}
	}
	return b
}

func headBy(log int, h api.Head) api.Head {
	h.Sig, _ = sign.Sign(secret(log), bytesOf("head", uint64(h.Log), uint64(h.Size), h.Root[0], h.Root[1], uint64(h.At)))
	return h
}

func promiseBy(log int, p api.Promise) api.Promise {
	p.Sig, _ = sign.Sign(secret(log), bytesOf("promise", uint64(p.Log), uint64(p.At), p.Leaf[0], p.Leaf[1]))
	return p
}

// head is one that its log has signed.
func head(log, size int, root api.Sum, at int) api.Head {
	return headBy(log, api.Head{Log: log, Size: size, Root: root, At: at})
}

func promise(log, at int, leaf api.Sum) api.Promise {
	return promiseBy(log, api.Promise{Log: log, At: at, Leaf: leaf})
}

func sum(n uint64) api.Sum { return api.Sum{n, n << 32} }

func sums(many int) []api.Sum {
	var l []api.Sum
	for k := range many {
		l = append(l, sum(uint64(k)+1))
	}
	return l
}

func crew() (api.Crew, []api.Share) {
	c, shares, _ := quorum.Deal([]byte("crew"), 2, 3)
	return c, shares
}

// table allows all below b, but not x.b.
func table() api.Table {
	rules, _, _ := rule.Parse([]byte("allow all { *.b; life 90; } refuse one { x.b; }"))
	t, _ := policy.Compile(rules)
	return t
}

func commitsOf(session int, body []byte, ids ...int) []api.Share {
	_, shares := crew()
	var l []api.Share
	for _, id := range ids {
		c, _ := quorum.Commit(shares[id-1], session, body)
		l = append(l, c)
	}
	return l
}

// rogue is a report of the signer id's part of a body.
func rogue(id int, body []byte) api.Report {
	c, shares := crew()
	commits := commitsOf(7, body, 1, 3)
	part, _ := quorum.Part(c, shares[id-1], 7, body, commits)
	return report.Rogue(body, commits, part)
}

// The three that prove something.
func forked() api.Report { return report.Fork(head(0, 3, sum(5), 8), head(0, 3, sum(6), 9)) }

func broken() api.Report {
	return report.Broke(promise(0, 2, sum(9)), head(0, 3, merkle.Root(sums(3)), 8), sums(3))
}

func rogued() api.Report { return rogue(3, []byte("anything")) }

func all() []api.Report { return []api.Report{forked(), broken(), rogued()} }

func checks(t *testing.T, what string, r api.Report, want api.Errno) {
	t.Helper()
	c, _ := crew()
	if e := report.Check(r, keys(), c, table()); e != want {
		t.Errorf("%s: Check(%v) is %d, not %d", what, r, e, want)
	}
}

func proves(t *testing.T, what string, r api.Report) {
	t.Helper()
	checks(t, what, r, api.OK)
}

func provesNothing(t *testing.T, what string, r api.Report) {
	t.Helper()
	checks(t, what, r, api.ErrProof)
}

func copied(r api.Report) api.Report {
	r.Heads, r.Leaves, r.Body, r.Commits = slices.Clone(r.Heads), slices.Clone(r.Leaves), bytes.Clone(r.Body), slices.Clone(r.Commits)
	return r
}

func changed(r api.Report, change func(r *api.Report)) api.Report {
	r = copied(r)
	change(&r)
	return r
}

func noNumbers() []int {
	return []int{math.MinInt, -2, -1, api.MaxTime + 1, api.MaxTime + 2, math.MaxInt}
}

// P31.1

func is(t *testing.T, what string, r, want api.Report) {
	t.Helper()
	if r.Kind != want.Kind || r.Party != want.Party || !slices.Equal(r.Heads, want.Heads) || r.Promise != want.Promise || !slices.Equal(r.Leaves, want.Leaves) || !bytes.Equal(r.Body, want.Body) || !slices.Equal(r.Commits, want.Commits) || r.Part != want.Part {
		t.Errorf("%s is %v, not %v", what, r, want)
	}
}

func TestFork(t *testing.T) {
	for _, log := range []int{math.MinInt, -1, 0, 7, math.MaxInt} {
		a, b := api.Head{Log: log, Size: 4, Root: sum(1), At: 5, Sig: api.Sig{E: 6, S: 7}}, api.Head{Log: 9, Size: -4, At: 1}
		is(t, "Fork", report.Fork(a, b), api.Report{Kind: 1, Party: log, Heads: []api.Head{a, b}})
		is(t, "Fork of one and itself", report.Fork(a, a), api.Report{Kind: 1, Party: log, Heads: []api.Head{a, a}})
	}
}

func TestBroke(t *testing.T) {
	for _, log := range []int{math.MinInt, -1, 0, 7, math.MaxInt} {
		p, h := api.Promise{Log: log, At: 3, Leaf: sum(2), Sig: api.Sig{E: 8}}, api.Head{Log: 9, Size: -4, At: 1}
		for _, many := range []int{0, 1, 3, 300} {
			is(t, "Broke", report.Broke(p, h, sums(many)), api.Report{Kind: 2, Party: log, Heads: []api.Head{h}, Promise: p, Leaves: sums(many)})
		}
	}
}

func TestRogue(t *testing.T) {
	for _, id := range []int{math.MinInt, -1, 0, 7, math.MaxInt} {
		part := api.Share{Id: id, X: 8}
		is(t, "Rogue", report.Rogue([]byte("body"), []api.Share{{Id: 4, X: 5}, {Id: -4}}, part), api.Report{Kind: 3, Party: id, Body: []byte("body"), Commits: []api.Share{{Id: 4, X: 5}, {Id: -4}}, Part: part})
		is(t, "Rogue of nothing", report.Rogue(nil, nil, part), api.Report{Kind: 3, Party: id, Part: part})
		is(t, "Rogue of much", report.Rogue(make([]byte, 3000), make([]api.Share, 9), part), api.Report{Kind: 3, Party: id, Body: make([]byte, 3000), Commits: make([]api.Share, 9), Part: part})
	}
}

// differences change one thing each, of a report that has two of each list.
func differences() []func(r *api.Report) {
	return []func(r *api.Report){
		func(r *api.Report) { r.Kind++ }, func(r *api.Report) { r.Party++ },
		func(r *api.Report) { r.Heads[0].Log++ }, func(r *api.Report) { r.Heads[1].Size++ }, func(r *api.Report) { r.Heads[0].Root[0]++ }, func(r *api.Report) { r.Heads[0].Root[1]++ }, func(r *api.Report) { r.Heads[1].At++ }, func(r *api.Report) { r.Heads[0].Sig.E++ }, func(r *api.Report) { r.Heads[0].Sig.S++ }, func(r *api.Report) { r.Heads = r.Heads[:1] }, func(r *api.Report) { r.Heads = append(r.Heads, api.Head{}) }, func(r *api.Report) { slices.Reverse(r.Heads) }, func(r *api.Report) { r.Heads = nil },
		func(r *api.Report) { r.Promise.Log++ }, func(r *api.Report) { r.Promise.At++ }, func(r *api.Report) { r.Promise.Leaf[1]++ }, func(r *api.Report) { r.Promise.Sig.E++ },
		func(r *api.Report) { r.Leaves[0][0]++ }, func(r *api.Report) { r.Leaves[1][1]++ }, func(r *api.Report) { r.Leaves = r.Leaves[:1] }, func(r *api.Report) { r.Leaves = append(r.Leaves, api.Sum{}) }, func(r *api.Report) { r.Leaves = nil }, func(r *api.Report) { slices.Reverse(r.Leaves) },
		func(r *api.Report) { r.Body[0]++ }, func(r *api.Report) { r.Body[1]++ }, func(r *api.Report) { r.Body = r.Body[:1] }, func(r *api.Report) { r.Body = append(r.Body, 0) }, func(r *api.Report) { r.Body = nil },
		func(r *api.Report) { r.Commits[0].Id++ }, func(r *api.Report) { r.Commits[1].X++ }, func(r *api.Report) { r.Commits = r.Commits[:1] }, func(r *api.Report) { r.Commits = append(r.Commits, api.Share{}) }, func(r *api.Report) { r.Commits = nil }, func(r *api.Report) { slices.Reverse(r.Commits) },
		func(r *api.Report) { r.Part.Id++ }, func(r *api.Report) { r.Part.X++ },
	}
}

func TestSame(t *testing.T) {
	r := api.Report{Kind: 2, Party: 3, Heads: []api.Head{{Log: 1}, {Log: 2}}, Promise: api.Promise{At: 3}, Leaves: sums(2), Body: []byte("ab"), Commits: []api.Share{{Id: 1}, {Id: 2}}, Part: api.Share{Id: 9, X: 8}}
	if !report.Same(r, copied(r)) || !report.Same(api.Report{}, api.Report{}) {
		t.Errorf("a report is not the same as itself")
	}
	empty := api.Report{Heads: []api.Head{}, Leaves: []api.Sum{}, Body: []byte{}, Commits: []api.Share{}}
	if !report.Same(empty, api.Report{}) || !report.Same(api.Report{}, empty) {
		t.Errorf("lists without elements are not the same")
	}
	for k, change := range differences() {
		if x := changed(r, change); report.Same(r, x) || report.Same(x, r) || !report.Same(x, x) {
			t.Errorf("the change %d makes no difference", k)
		}
	}
	for at, x := range all() {
		for other, y := range all() {
			if report.Same(x, y) != (at == other) {
				t.Errorf("Same of %d and %d is wrong", at, other)
			}
		}
	}
}

// P31.2: form

// formless changes what proves something, so that it has no form.
func formless() map[string][]func(r *api.Report) {
	l := map[string][]func(r *api.Report){}
	with := func(what string, change func(r *api.Report)) { l[what] = append(l[what], change) }
	for _, n := range noNumbers() {
		with("all", func(r *api.Report) { r.Party = n })
		for at := range 2 {
			with("heads", func(r *api.Report) { r.Heads[min(at, len(r.Heads)-1)].Log = n })
			with("heads", func(r *api.Report) { r.Heads[min(at, len(r.Heads)-1)].Size = n })
			with("heads", func(r *api.Report) { r.Heads[min(at, len(r.Heads)-1)].At = n })
		}
		with("promise", func(r *api.Report) { r.Promise.Log = n })
		with("promise", func(r *api.Report) { r.Promise.At = n })
		with("part", func(r *api.Report) { r.Part.Id = n })
		for at := range 2 {
			with("part", func(r *api.Report) { r.Commits[at].Id = n })
		}
	}
	for _, n := range []uint64{api.P, api.P + 1, math.MaxUint64} {
		for k := range 2 {
			with("heads", func(r *api.Report) { r.Heads[len(r.Heads)-1].Root[k] = n })
			with("promise", func(r *api.Report) { r.Promise.Leaf[k] = n })
			for at := range 3 {
				with("promise", func(r *api.Report) { r.Leaves[at][k] = n })
			}
		}
	}
	for _, n := range []uint64{api.R, api.R + 1, math.MaxUint64} {
		with("heads", func(r *api.Report) { r.Heads[0].Sig.E = n })
		with("heads", func(r *api.Report) { r.Heads[0].Sig.S = n })
		with("promise", func(r *api.Report) { r.Promise.Sig.E = n })
		with("promise", func(r *api.Report) { r.Promise.Sig.S = n })
	}
	for _, n := range []uint64{api.Q, api.Q + 1, math.MaxUint64} {
		with("part", func(r *api.Report) { r.Part.X = n })
		with("part", func(r *api.Report) { r.Commits[0].X = n })
		with("part", func(r *api.Report) { r.Commits[1].X = n })
	}
	for _, kind := range []int{math.MinInt, -1, 0, 4, 5, math.MaxInt} {
		with("all", func(r *api.Report) { r.Kind = kind })
	}
	with("heads", func(r *api.Report) { r.Heads = r.Heads[1:] })
	with("heads", func(r *api.Report) { r.Heads = nil })
	with("heads", func(r *api.Report) { r.Heads = append(r.Heads, r.Heads[0]) })
	with("promise", func(r *api.Report) { r.Leaves = sums(257) })
	with("part", func(r *api.Report) { r.Body = make([]byte, 2049) })
	with("part", func(r *api.Report) { r.Commits = make([]api.Share, 8) })
	// What has to be zero.
	with("no heads", func(r *api.Report) { r.Heads = []api.Head{{}} })
	with("no heads", func(r *api.Report) { r.Heads = []api.Head{head(0, 3, sum(5), 8), head(0, 3, sum(6), 8)} })
	for _, p := range []api.Promise{{Log: 1}, {At: 1}, {Leaf: api.Sum{1, 0}}, {Leaf: api.Sum{0, 1}}, {Sig: api.Sig{E: 1}}, {Sig: api.Sig{S: 1}}} {
		with("no promise", func(r *api.Report) { r.Promise = p })
	}
	with("no promise", func(r *api.Report) { r.Leaves = []api.Sum{{}} })
	with("no part", func(r *api.Report) { r.Body = []byte{0} })
	with("no part", func(r *api.Report) { r.Commits = []api.Share{{}} })
	with("no part", func(r *api.Report) { r.Part.Id = 1 })
	with("no part", func(r *api.Report) { r.Part.X = 1 })
	return l
}

// wrong are all that have no form, but would prove something otherwise (as far as they can).
func wrong() []api.Report {
	var l []api.Report
	of := map[int][]string{api.ForkR: {"all", "heads", "no promise", "no part"}, api.BrokeR: {"all", "heads", "promise", "no part"}, api.RogueR: {"all", "part", "no heads", "no promise"}}
	for _, r := range all() {
		for _, what := range of[r.Kind] {
			for _, change := range formless()[what] {
				l = append(l, changed(r, change))
			}
		}
	}
	return l
}

func TestFormOfReports(t *testing.T) {
	for _, r := range wrong() {
		provesNothing(t, "without form", r)
		if b, e := report.Put(r); len(b) != 0 || e != api.ErrArg {
			t.Errorf("Put(%v) is %v, %d", r, b, e)
		}
	}
}

// TestFormAlone: who signs anything signs also what has no form; and what it is that is missing from the form is all that is wrong.
func TestFormAlone(t *testing.T) {
	for _, n := range []uint64{api.P, api.P + 1, math.MaxUint64} {
		for k := range 2 {
			root := sum(5)
			root[k] = n
			r := report.Fork(head(0, 3, root, 8), head(0, 3, sum(6), 8))
			if e := logd.CheckHead(keyOf(0), r.Heads[0]); e != api.OK {
				t.Fatal(e)
			}
			provesNothing(t, "a head with a root that is none", r)
			leaves := sums(3)
			leaves[1][k] = n
			provesNothing(t, "leaves that are none", report.Broke(promise(0, 2, sum(9)), head(0, 3, merkle.Root(leaves), 8), leaves))
			leaf := sum(9)
			leaf[k] = n
			provesNothing(t, "a promise of a leaf that is none", report.Broke(promise(0, 2, leaf), head(0, 3, merkle.Root(sums(3)), 8), sums(3)))
		}
	}
	proves(t, "as much as there may be", rogue(3, make([]byte, 2048)))
	provesNothing(t, "a body that is too long", rogue(3, make([]byte, 2049)))
	proves(t, "an empty body", rogue(3, nil))
}

// P31.2: forks

func TestCheckOfForks(t *testing.T) {
	proves(t, "a fork", forked())
	for _, size := range []int{0, 1, 255, 256} {
		proves(t, "of some size", report.Fork(head(3, size, sum(5), 0), head(3, size, sum(6), api.MaxTime)))
	}
	for _, size := range []int{257, api.MaxTime} {
		provesNothing(t, "of a size that no head has", report.Fork(head(3, size, sum(5), 0), head(3, size, sum(6), 0)))
	}
	proves(t, "of one time", report.Fork(head(2, 3, sum(5), 8), head(2, 3, sum(6), 8)))
	proves(t, "roots that differ in the first number alone", report.Fork(head(2, 3, api.Sum{5, 6}, 8), head(2, 3, api.Sum{4, 6}, 8)))
	proves(t, "roots that differ in the second number alone", report.Fork(head(2, 3, api.Sum{5, 6}, 8), head(2, 3, api.Sum{5, 7}, 8)))
	provesNothing(t, "one root", report.Fork(head(0, 3, sum(5), 8), head(0, 3, sum(5), 9)))
	provesNothing(t, "one head", report.Fork(head(0, 3, sum(5), 8), head(0, 3, sum(5), 8)))
	provesNothing(t, "unlike sizes", report.Fork(head(0, 3, sum(5), 8), head(0, 4, sum(6), 8)))
	provesNothing(t, "unlike logs", report.Fork(head(0, 3, sum(5), 8), head(2, 3, sum(6), 8)))
	provesNothing(t, "unlike logs", report.Fork(head(2, 3, sum(5), 8), head(0, 3, sum(6), 8)))
	provesNothing(t, "a log that nobody knows", report.Fork(head(1, 3, sum(5), 8), head(1, 3, sum(6), 8)))
	for _, party := range []int{2, 3, 1} {
		provesNothing(t, "another party", changed(forked(), func(r *api.Report) { r.Party = party }))
		r := changed(forked(), func(r *api.Report) { r.Heads[0], r.Party = head(party, 3, sum(5), 8), party })
		provesNothing(t, "a head of another log", r)
		r = changed(forked(), func(r *api.Report) { r.Heads[1] = head(party, 3, sum(5), 8) })
		provesNothing(t, "a head of another log", r)
	}
	for at := range 2 {
		for k, change := range []func(h *api.Head){func(h *api.Head) { h.Sig.E ^= 1 }, func(h *api.Head) { h.Sig.S ^= 1 }, func(h *api.Head) { h.Sig = api.Sig{} }, func(h *api.Head) { h.At++ }, func(h *api.Head) { h.Root[0] += 7 }, func(h *api.Head) { *h = headBy(2, *h) }} {
			r := changed(forked(), func(r *api.Report) { change(&r.Heads[at]) })
			provesNothing(t, "a head that is not right, "+strconv.Itoa(at)+", "+strconv.Itoa(k), r)
		}
	}
}

func TestCheckByTheFirstKey(t *testing.T) {
	c, shares := crew()
	other := api.Key{Log: 0, Key: keyOf(2).Key, Delay: delay}
	for _, x := range []struct {
		keys []api.Key
		want api.Errno
	}{
		{[]api.Key{keyOf(0)}, api.OK}, {[]api.Key{keyOf(0), other}, api.OK}, {[]api.Key{keyOf(2), keyOf(0), other}, api.OK}, {[]api.Key{other, keyOf(0)}, api.ErrProof}, {[]api.Key{keyOf(2), keyOf(3)}, api.ErrProof}, {nil, api.ErrProof}, {[]api.Key{{Log: 0, Key: 2, Delay: delay}, keyOf(0)}, api.ErrProof},
	} {
		for _, r := range []api.Report{forked(), broken()} {
			if e := report.Check(r, x.keys, c, table()); e != x.want {
				t.Errorf("Check(%v) by %v is %d, not %d", r, x.keys, e, x.want)
			}
			// Neither a crew nor a policy is looked at.
			if e := report.Check(r, x.keys, api.Crew{}, api.Table{}); e != x.want {
				t.Errorf("Check(%v) by %v without a crew is %d, not %d", r, x.keys, e, x.want)
			}
		}
	}
	r := report.Rogue(nil, nil, shares[0])
	if e := report.Check(r, nil, c, table()); e != api.ErrProof {
		t.Errorf("Check(%v) is %d", r, e)
	}
}

// P31.2: broken promises

func TestCheckOfBrokenPromises(t *testing.T) {
	proves(t, "a broken promise", broken())
	for _, many := range []int{0, 1, 2, 17, 256} {
		leaves := sums(many)
		proves(t, "of so many leaves", report.Broke(promise(3, 0, sum(999)), head(3, many, merkle.Root(leaves), 6), leaves))
		provesNothing(t, "a head of another size", report.Broke(promise(3, 0, sum(999)), head(3, many+1, merkle.Root(leaves), 6), leaves))
		provesNothing(t, "leaves that are not all", report.Broke(promise(3, 0, sum(999)), head(3, many, merkle.Root(leaves), 6), sums(many+1)))
		provesNothing(t, "another root", report.Broke(promise(3, 0, sum(999)), head(3, many, sum(999), 6), leaves))
		if many == 0 {
			continue
		}
		provesNothing(t, "a head of a lesser size", report.Broke(promise(3, 0, sum(999)), head(3, many-1, merkle.Root(leaves), 6), leaves))
		provesNothing(t, "leaves that are fewer", report.Broke(promise(3, 0, sum(999)), head(3, many, merkle.Root(leaves), 6), leaves[1:]))
		for _, at := range []int{0, many / 2, many - 1} {
			provesNothing(t, "it has the leaf", report.Broke(promise(3, 0, leaves[at]), head(3, many, merkle.Root(leaves), 6), leaves))
			turned := slices.Clone(leaves)
			turned[at] = sum(998)
			provesNothing(t, "leaves that are not the head's", report.Broke(promise(3, 0, sum(999)), head(3, many, merkle.Root(leaves), 6), turned))
			provesNothing(t, "the promised leaf hidden behind another one", report.Broke(promise(3, 0, leaves[at]), head(3, many, merkle.Root(leaves), 6), turned))
			half := api.Sum{leaves[at][0], leaves[at][1] + 1}
			proves(t, "half of a leaf", report.Broke(promise(3, 0, half), head(3, many, merkle.Root(leaves), 6), leaves))
		}
	}
	root := merkle.Root(sums(3))
	for _, at := range []int{0, 2, 100, api.MaxTime - 6, api.MaxTime - 5} {
		for now := max(0, at-2); now <= min(at+8, api.MaxTime); now++ {
			r := report.Broke(promise(2, at, sum(9)), head(2, 3, root, now), sums(3))
			if now > at+delay {
				proves(t, "due", r)
			} else {
				provesNothing(t, "not yet due", r)
			}
		}
	}
}

func TestCheckOfBrokenPromisesOfOthers(t *testing.T) {
	root := merkle.Root(sums(3))
	for _, log := range []int{2, 3, 1} {
		provesNothing(t, "a promise of another log", report.Broke(promise(log, 2, sum(9)), head(0, 3, root, 8), sums(3)))
		provesNothing(t, "a head of another log", report.Broke(promise(0, 2, sum(9)), head(log, 3, root, 8), sums(3)))
		provesNothing(t, "another party", changed(broken(), func(r *api.Report) { r.Party = log }))
		r := report.Broke(promise(log, 2, sum(9)), head(log, 3, root, 8), sums(3))
		r.Party = 0
		provesNothing(t, "all of another log", r)
		provesNothing(t, "a promise that another one signed", report.Broke(promiseBy(log, promise(0, 2, sum(9))), head(0, 3, root, 8), sums(3)))
		provesNothing(t, "a head that another one signed", report.Broke(promise(0, 2, sum(9)), headBy(log, head(0, 3, root, 8)), sums(3)))
	}
	provesNothing(t, "a log that nobody knows", report.Broke(promise(1, 2, sum(9)), head(1, 3, root, 8), sums(3)))
	for k, change := range []func(r *api.Report){
		func(r *api.Report) { r.Promise.At = 1 }, func(r *api.Report) { r.Promise.Leaf[0]++ }, func(r *api.Report) { r.Promise.Sig.E ^= 1 }, func(r *api.Report) { r.Promise.Sig = api.Sig{} },
		func(r *api.Report) { r.Heads[0].At = 9 }, func(r *api.Report) { r.Heads[0].Sig.S ^= 1 }, func(r *api.Report) { r.Heads[0].Sig = api.Sig{} }, func(r *api.Report) { r.Promise.Sig = r.Heads[0].Sig },
	} {
		provesNothing(t, "what is not right, "+strconv.Itoa(k), changed(broken(), change))
	}
}

func TestCheckByDelays(t *testing.T) {
	c, _ := crew()
	root := merkle.Root(sums(3))
	for _, x := range []struct {
		at, now, delay int
		want           api.Errno
	}{
		{2, 8, 5, api.OK}, {2, 8, 6, api.ErrProof}, {2, 3, 0, api.OK}, {2, 2, 0, api.ErrProof}, {2, 2, -1, api.OK}, {2, 1, -1, api.ErrProof}, {api.MaxTime, api.MaxTime, -1, api.OK}, {api.MaxTime, 0, 0, api.ErrProof},
		// They go round.
		{2, 0, math.MaxInt, api.OK}, {1, 0, math.MaxInt, api.OK}, {0, api.MaxTime, math.MaxInt, api.ErrProof}, {0, 0, math.MinInt, api.OK}, {api.MaxTime, 0, math.MaxInt - api.MaxTime, api.ErrProof}, {api.MaxTime, 0, math.MaxInt - api.MaxTime + 1, api.OK}, {api.MaxTime, 0, math.MinInt, api.OK},
	} {
		r := report.Broke(promise(0, x.at, sum(9)), head(0, 3, root, x.now), sums(3))
		first, other := keyOf(0), keyOf(0)
		first.Delay, other.Delay = x.delay, 1000
		if e := report.Check(r, []api.Key{keyOf(2), first, other}, c, table()); e != x.want {
			t.Errorf("promised at %d, by %d, is broken at %d: %d, not %d", x.at, x.delay, x.now, e, x.want)
		}
	}
}

// P31.2: rogues

func site(names ...string) api.Cert {
	return api.Cert{Serial: 1, Issuer: "greatseal", Key: 4, Names: names, From: 10, Until: 60}
}

// promised is the body of a certificate that some logs have promised.
func promised(c api.Cert, ids ...int) []byte {
	pre, _ := cert.Pre(c)
	for _, id := range ids {
		c.Proms = append(c.Proms, promise(id, 10, merkle.Leaf(pre)))
	}
	b, _ := cert.Body(c)
	return b
}

func TestCheckOfRogues(t *testing.T) {
	for _, id := range []int{1, 3} {
		proves(t, "bytes that are no certificate's", rogue(id, []byte("anything")))
		proves(t, "nobody has promised it", rogue(id, promised(site("a.b"))))
		proves(t, "one log has promised it", rogue(id, promised(site("a.b"), 2)))
		proves(t, "the policy refuses it", rogue(id, promised(site("x.b"), 0, 2)))
		proves(t, "the policy does not allow it", rogue(id, promised(site("a.c"), 0, 2)))
		proves(t, "a log has promised it that nobody knows", rogue(id, promised(site("a.b"), 0, 1)))
		provesNothing(t, "an honest one signs it, too", rogue(id, promised(site("a.b"), 0, 2)))
		provesNothing(t, "an honest one signs it, too", rogue(id, promised(site("a.b", "y.x.b"), 0, 1, 2)))
		authority := api.Cert{Serial: 1, Issuer: "greatseal", Subject: "other", Key: 4, From: 10, Until: 60, Ca: true}
		proves(t, "an authority", rogue(id, promised(authority, 0, 2)))
		for _, party := range []int{0, 1, 2, 3, 4, api.MaxTime} {
			if r := changed(rogue(id, []byte("anything")), func(r *api.Report) { r.Party = party }); party != id {
				provesNothing(t, "another party", r)
			}
		}
	}
	for k, change := range []func(r *api.Report){
		func(r *api.Report) { r.Part.X ^= 1 }, func(r *api.Report) { r.Part.X = 0 }, func(r *api.Report) { r.Part.X += api.R - 7 }, func(r *api.Report) { r.Part.Id, r.Party = 1, 1 }, func(r *api.Report) { r.Part.Id, r.Party = 2, 2 }, func(r *api.Report) { r.Part.Id, r.Party = 4, 4 }, func(r *api.Report) { r.Part.Id, r.Party = 0, 0 },
		func(r *api.Report) { r.Body[0]++ }, func(r *api.Report) { r.Body = nil },
		func(r *api.Report) { r.Commits[0].X = cyclic.Mul(r.Commits[0].X, 4) }, func(r *api.Report) { r.Commits = r.Commits[1:] }, func(r *api.Report) { r.Commits = nil }, func(r *api.Report) { slices.Reverse(r.Commits) }, func(r *api.Report) { r.Commits[0].Id = 2 }, func(r *api.Report) { r.Commits = append(r.Commits, api.Share{Id: 4, X: 4}) }, func(r *api.Report) { r.Commits[0].X = 2 },
	} {
		provesNothing(t, "a part that is not right, "+strconv.Itoa(k), changed(rogued(), change))
	}
}

func TestCheckOfRoguesBy(t *testing.T) {
	c, _ := crew()
	other, _, _ := quorum.Deal([]byte("other"), 2, 3)
	torn := table()
	torn.Nodes = torn.Nodes[1:]
	none, _ := policy.Compile(nil)
	fine, refused := rogue(3, promised(site("a.b"), 0, 2)), rogue(3, promised(site("x.b"), 0, 2))
	for k, x := range []struct {
		r     api.Report
		keys  []api.Key
		crew  api.Crew
		table api.Table
		want  api.Errno
	}{
		{fine, keys(), c, table(), api.ErrProof},
		{refused, keys(), c, table(), api.OK},
		// A policy that may not be shows nothing, also if all else does.
		{refused, keys(), c, torn, api.ErrProof},
		{refused, keys(), c, api.Table{}, api.ErrProof},
		{rogued(), keys(), c, torn, api.ErrProof},
		{fine, keys(), c, torn, api.ErrProof},
		// By another policy, or others' keys, no honest one would have signed it.
		{fine, keys(), c, none, api.OK},
		{fine, []api.Key{keyOf(2)}, c, table(), api.OK},
		{fine, nil, c, table(), api.OK},
		{fine, []api.Key{{Log: 0, Key: 4}, keyOf(0), keyOf(2)}, c, table(), api.OK},
		// Another crew, or one that may not be.
		{refused, keys(), other, table(), api.ErrProof},
		{refused, keys(), api.Crew{}, table(), api.ErrProof},
	} {
		if e := report.Check(x.r, x.keys, x.crew, x.table); e != x.want {
			t.Errorf("%d: Check is %d, not %d", k, e, x.want)
		}
	}
}

// TestCheckOfKinds: what shows one thing shows no other one.
func TestCheckOfKinds(t *testing.T) {
	for _, r := range all() {
		proves(t, "as it is", r)
		for kind := range 5 {
			if x := changed(r, func(r *api.Report) { r.Kind = kind }); kind != r.Kind {
				provesNothing(t, "of another kind", x)
			}
		}
	}
	provesNothing(t, "nothing", api.Report{})
	for kind := 1; kind <= 3; kind++ {
		provesNothing(t, "nothing of a kind", api.Report{Kind: kind})
	}
}

// P31.3

func ints(numbers ...uint64) []api.Item {
	var l []api.Item
	for _, n := range numbers {
		l = append(l, der.Int(int(n)))
	}
	return l
}

func ofHead(h api.Head) api.Item {
	return der.Seq(ints(uint64(h.Log), uint64(h.Size), h.Root[0], h.Root[1], uint64(h.At), h.Sig.E, h.Sig.S)...)
}

// itemOf is that of a report, as the chapter says.
func itemOf(r api.Report) api.Item {
	l := ints(uint64(r.Kind), uint64(r.Party))
	for _, h := range r.Heads {
		l = append(l, ofHead(h))
	}
	if r.Kind == api.BrokeR {
		p := r.Promise
		l = append(l, der.Seq(ints(uint64(p.Log), uint64(p.At), p.Leaf[0], p.Leaf[1], p.Sig.E, p.Sig.S)...))
		var leaves []uint64
		for _, s := range r.Leaves {
			leaves = append(leaves, s[0], s[1])
		}
		l = append(l, der.Seq(ints(leaves...)...))
	}
	if r.Kind == api.RogueR {
		var commits []uint64
		for _, s := range r.Commits {
			commits = append(commits, uint64(s.Id), s.X)
		}
		l = append(l, der.Oct(r.Body), der.Seq(ints(commits...)...))
		l = append(l, ints(uint64(r.Part.Id), r.Part.X)...)
	}
	return der.Seq(l...)
}

func bytesOfItem(t *testing.T, x api.Item) []byte {
	t.Helper()
	b, e := der.Put(x)
	if e != api.OK {
		t.Fatal(e)
	}
	return b
}

// edges are reports that have form, with each number as great as it may be, and as small, and lists as long and as short.
func edges() []api.Report {
	l := all()
	big := api.Head{Log: api.MaxTime, Size: api.MaxTime, Root: api.Sum{api.P - 1, api.P - 1}, At: api.MaxTime, Sig: api.Sig{E: api.R - 1, S: api.R - 1}}
	least := api.Head{}
	apart := api.Head{Log: 1, Size: 2, Root: api.Sum{3, 4}, At: 5, Sig: api.Sig{E: 6, S: 7}}
	p := api.Promise{Log: api.MaxTime, At: api.MaxTime, Leaf: api.Sum{api.P - 1, api.P - 1}, Sig: api.Sig{E: api.R - 1, S: api.R - 1}}
	for _, party := range []int{0, 1, 127, 128, api.MaxTime} {
		for _, h := range []api.Head{big, least, apart} {
			l = append(l, api.Report{Kind: 1, Party: party, Heads: []api.Head{h, apart}}, api.Report{Kind: 1, Party: party, Heads: []api.Head{apart, h}})
			for _, many := range []int{0, 1, 2, 255, 256} {
				leaves := sums(many)
				for at := range leaves {
					leaves[at][at%2] = api.P - 1 - uint64(at)
				}
				l = append(l, api.Report{Kind: 2, Party: party, Heads: []api.Head{h}, Promise: p, Leaves: leaves}, api.Report{Kind: 2, Party: party, Heads: []api.Head{h}, Leaves: leaves})
			}
		}
		l = append(l, api.Report{Kind: 2, Party: party, Heads: []api.Head{apart}, Promise: api.Promise{Log: 8, At: 9, Leaf: api.Sum{10, 11}, Sig: api.Sig{E: 12, S: 13}}, Leaves: []api.Sum{{14, 15}, {16, 17}}})
		for _, size := range []int{0, 1, 127, 128, 2047, 2048} {
			for many := range 8 {
				var commits []api.Share
				for k := range many {
					commits = append(commits, api.Share{Id: api.MaxTime - k, X: api.Q - 1 - uint64(k)})
				}
				l = append(l, api.Report{Kind: 3, Party: party, Body: bytes.Repeat([]byte{255}, size), Commits: commits, Part: api.Share{Id: api.MaxTime, X: api.Q - 1}}, api.Report{Kind: 3, Party: party, Body: make([]byte, size), Commits: make([]api.Share, many)})
			}
		}
	}
	return l
}

func TestPutAndGet(t *testing.T) {
	for _, r := range edges() {
		want := bytesOfItem(t, itemOf(r))
		b, e := report.Put(r)
		if !bytes.Equal(b, want) || e != api.OK {
			t.Fatalf("Put(%v) is %v, %d, not %v", r, b, e, want)
		}
		x, e := report.Get(b)
		if !report.Same(x, r) || e != api.OK {
			t.Fatalf("Get(%v) is %v, %d, not %v", b, x, e, r)
		}
	}
}

func getsNot(t *testing.T, what string, b []byte, want api.Errno) {
	t.Helper()
	if r, e := report.Get(b); !report.Same(r, api.Report{}) || e != want {
		t.Errorf("%s: Get(%v) is %v, %d, not %d", what, b, r, e, want)
	}
}

// some are short ones that have form, of each kind.
func some() []api.Report {
	return append(all(), api.Report{Kind: 2, Heads: []api.Head{{}}}, api.Report{Kind: 3}, report.Rogue([]byte("ab"), []api.Share{{Id: 1, X: 4}}, api.Share{Id: 5}))
}

func TestGetOfWhatIsNone(t *testing.T) {
	getsNot(t, "nothing", nil, api.ErrShort)
	for _, r := range some() {
		b, _ := report.Put(r)
		for at := range b {
			getsNot(t, "cut short", b[:at], api.ErrShort)
		}
		for _, behind := range [][]byte{{0}, {5, 0}, {48, 0}, b} {
			getsNot(t, "something behind it", append(slices.Clone(b), behind...), api.ErrForm)
		}
		for at := range b {
			for _, n := range []byte{0, 1, 2, 3, 4, 5, 12, 48, 127, 128, 255, b[at] + 1} {
				x := slices.Clone(b)
				x[at] = n
				got, e := report.Get(x)
				_, _, of := der.Get(x, 0)
				back, put := report.Put(got)
				switch {
				case e == api.OK && (put != api.OK || !bytes.Equal(back, x)):
					t.Errorf("Get(%v) is %v", x, got)
				case e != api.OK && !report.Same(got, api.Report{}), of != api.OK && e != of, of == api.OK && e != api.OK && e != api.ErrForm:
					t.Errorf("Get(%v) is %v, %d, where der.Get is %d", x, got, e, of)
				}
			}
		}
	}
	for _, b := range [][]byte{{0}, {9, 0}, {2, 2, 0, 5}, {48, 128}} {
		getsNot(t, "no item", b, api.ErrForm)
	}
}

// others are items that stand where another one should.
func others() []api.Item {
	return []api.Item{der.Int(-1), der.Int(api.MaxTime + 1), der.Int(math.MinInt), der.Int(math.MaxInt), der.Oct(nil), der.Oct([]byte{5}), der.Text("a"), der.Bool(true), der.Seq(), der.Seq(der.Int(5)), der.Seq(der.Seq())}
}

// TestGetOfOtherShapes: each item, at each depth, is another one, or is missing, or has one more beside it.
func TestGetOfOtherShapes(t *testing.T) {
	for _, r := range some() {
		right := itemOf(r)
		b := bytesOfItem(t, right)
		try := func(x api.Item) {
			t.Helper()
			if c, e := der.Put(x); e == api.OK && !bytes.Equal(c, b) {
				got, e := report.Get(c)
				back, put := report.Put(got)
				if e == api.OK && (put != api.OK || !bytes.Equal(back, c)) || e != api.OK && (e != api.ErrForm || !report.Same(got, api.Report{})) {
					t.Errorf("Get of the item %v is %v, %d", x, got, e)
				}
			}
		}
		turn := func(l []api.Item, whole func(l []api.Item) api.Item) {
			for at := range l {
				for _, other := range append(others(), l...) {
					x := slices.Clone(l)
					x[at] = other
					try(whole(x))
					try(whole(slices.Insert(slices.Clone(l), at, other)))
				}
				try(whole(slices.Delete(slices.Clone(l), at, at+1)))
			}
			for _, other := range others() {
				try(whole(append(slices.Clone(l), other)))
			}
		}
		turn(right.L, func(l []api.Item) api.Item { return der.Seq(l...) })
		for at, row := range right.L {
			turn(row.L, func(l []api.Item) api.Item {
				x := slices.Clone(right.L)
				x[at] = der.Seq(l...)
				return der.Seq(x...)
			})
		}
		for _, x := range others() {
			getsNot(t, "an item of another shape", bytesOfItem(t, x), api.ErrForm)
		}
	}
}

// TestGetOfItemsThatAreNone: each of these is the item of no report, as the chapter says.
func TestGetOfItemsThatAreNone(t *testing.T) {
	h, zero := ofHead(head(0, 3, sum(5), 8)), der.Int(0)
	sigless := der.Seq(ints(0, 3, 5, 5, 8, 1)...)
	p := der.Seq(ints(0, 2, 5, 6, 7, 8)...)
	for k, l := range [][]api.Item{
		{}, {der.Int(1)}, {der.Int(1), zero}, {der.Int(1), zero, h}, {der.Int(1), zero, h, h, h}, {der.Int(1), zero, h, h, zero}, {der.Int(1), h, zero, h}, {der.Int(1), zero, h, sigless}, {der.Int(1), zero, sigless, h}, {der.Int(1), zero, der.Seq(append(slices.Clone(h.L), zero)...), h}, {der.Int(1), zero, h, zero}, {der.Int(1), zero, der.Seq(h, h)}, {der.Int(1), zero, h, h, der.Seq()}, {der.Int(1), zero, h, p, der.Seq()}, {der.Text("1"), zero, h, h}, {der.Int(1), der.Oct([]byte{0}), h, h},
		{der.Int(2), zero}, {der.Int(2), zero, h}, {der.Int(2), zero, h, p}, {der.Int(2), zero, h, h, p, der.Seq()}, {der.Int(2), zero, p, h, der.Seq()}, {der.Int(2), zero, h, p, der.Seq(zero)}, {der.Int(2), zero, h, p, der.Seq(zero, zero, zero)}, {der.Int(2), zero, h, p, zero}, {der.Int(2), zero, h, p, der.Seq(der.Seq(zero, zero))}, {der.Int(2), zero, h, p, der.Seq(ints(make([]uint64, 514)...)...)}, {der.Int(2), zero, h, p, der.Seq(der.Int(api.P), zero)}, {der.Int(2), zero, h, p, der.Seq(), zero}, {der.Int(2), zero, h, der.Seq(p.L[1:]...), der.Seq()}, {der.Int(2), zero, h, p, der.Oct(nil)}, {der.Int(2), zero, h, p, der.Seq(zero, der.Oct(nil))},
		{der.Int(3), zero}, {der.Int(3), zero, der.Oct(nil), der.Seq(), zero}, {der.Int(3), zero, der.Oct(nil), der.Seq()}, {der.Int(3), zero, der.Text(""), der.Seq(), zero, zero}, {der.Int(3), zero, der.Seq(), der.Seq(), zero, zero}, {der.Int(3), zero, der.Oct(nil), der.Oct(nil), zero, zero}, {der.Int(3), zero, der.Oct(nil), der.Seq(zero), zero, zero}, {der.Int(3), zero, der.Oct(nil), der.Seq(ints(make([]uint64, 16)...)...), zero, zero}, {der.Int(3), zero, der.Oct(nil), der.Seq(zero, der.Int(api.Q)), zero, zero}, {der.Int(3), zero, der.Oct(nil), der.Seq(), zero, zero, zero}, {der.Int(3), zero, der.Oct(nil), der.Seq(), der.Seq(zero, zero)}, {der.Int(3), zero, der.Oct(make([]byte, 2049)), der.Seq(), zero, zero}, {der.Int(3), zero, h, der.Oct(nil), der.Seq(), zero, zero}, {der.Int(3), zero, der.Oct(nil), der.Seq(), zero, der.Int(api.Q)}, {der.Int(3), zero, der.Oct(nil), der.Seq(), zero, der.Int(-1)}, {der.Int(3), zero, der.Oct(nil), der.Seq(), der.Bool(false), zero},
		{der.Int(0), zero}, {der.Int(4), zero}, {der.Int(-1), zero}, {der.Int(0), zero, h, h}, {der.Int(4), zero, h, h}, {der.Int(4), zero, der.Oct(nil), der.Seq(), zero, zero},
	} {
		getsNot(t, "the items "+strconv.Itoa(k), bytesOfItem(t, der.Seq(l...)), api.ErrForm)
	}
	for _, r := range wrong() {
		if b, e := der.Put(itemOf(r)); e == api.OK {
			if x, e := report.Get(b); e == api.OK && report.Same(x, r) || e != api.OK && e != api.ErrForm {
				t.Errorf("Get of a report without form, %v, is %v, %d", r, x, e)
			}
		}
	}
}

// Bytes that were worked out apart from the program.

func TestBytes(t *testing.T) {
	r := report.Rogue([]byte("ab"), []api.Share{{Id: 1, X: 4}, {Id: 2, X: 128}}, api.Share{Id: 2, X: 5})
	want := []byte{48, 31, 2, 1, 3, 2, 1, 2, 4, 2, 97, 98, 48, 13, 2, 1, 1, 2, 1, 4, 2, 1, 2, 2, 2, 0, 128, 2, 1, 2, 2, 1, 5}
	if b, e := report.Put(r); !bytes.Equal(b, want) || e != api.OK {
		t.Errorf("Put is %v, %d", b, e)
	}
	r = report.Broke(api.Promise{Log: 1, At: 2, Leaf: api.Sum{3, 4}, Sig: api.Sig{E: 5, S: 6}}, api.Head{Log: 7, Size: 8, Root: api.Sum{9, 10}, At: 11, Sig: api.Sig{E: 12, S: 13}}, []api.Sum{{14, 15}})
	want = []byte{48, 57, 2, 1, 2, 2, 1, 1, 48, 21, 2, 1, 7, 2, 1, 8, 2, 1, 9, 2, 1, 10, 2, 1, 11, 2, 1, 12, 2, 1, 13, 48, 18, 2, 1, 1, 2, 1, 2, 2, 1, 3, 2, 1, 4, 2, 1, 5, 2, 1, 6, 48, 6, 2, 1, 14, 2, 1, 15}
	if b, e := report.Put(r); !bytes.Equal(b, want) || e != api.OK {
		t.Errorf("Put is %v, %d", b, e)
	}
	r = report.Fork(api.Head{}, api.Head{Log: 1, Size: 2, Root: api.Sum{3, 4}, At: 5, Sig: api.Sig{E: 6, S: 7}})
	want = []byte{48, 52, 2, 1, 1, 2, 1, 0, 48, 21, 2, 1, 0, 2, 1, 0, 2, 1, 0, 2, 1, 0, 2, 1, 0, 2, 1, 0, 2, 1, 0, 48, 21, 2, 1, 1, 2, 1, 2, 2, 1, 3, 2, 1, 4, 2, 1, 5, 2, 1, 6, 2, 1, 7}
	if b, e := report.Put(r); !bytes.Equal(b, want) || e != api.OK {
		t.Errorf("Put is %v, %d", b, e)
	}
}

// P31.4

// TestLogsAreReported: a log that is honest is never shown to be otherwise, a two-faced one, and one that takes nothing in, is.
func TestLogsAreReported(t *testing.T) {
	l, _ := logd.New(0, []byte("log"), delay)
	key, _ := logd.Public(l)
	c, _ := crew()
	shown := func(r api.Report) bool { return report.Check(r, []api.Key{key}, c, table()) == api.OK }
	var proms []api.Promise
	var heads []api.Head
	look := func(l api.Log, now int) (broke, fork bool) {
		for view := range 2 {
			leaves, _ := logd.Leaves(l, view)
			h, e := logd.Head(l, view, len(leaves), now)
			if e != api.OK {
				t.Fatal(e)
			}
			for _, p := range proms {
				broke = broke || shown(report.Broke(p, h, leaves))
			}
			for _, other := range heads {
				fork = fork || shown(report.Fork(h, other)) || shown(report.Fork(other, h))
			}
			heads = append(heads, h)
		}
		return broke, fork
	}
	for now := range 30 {
		var p api.Promise
		l, p, _ = logd.Add(l, []byte("body "+strconv.Itoa(now)), now)
		proms = append(proms, p)
		if now%5 == 0 {
			l, _ = logd.Merge(l)
		}
		if broke, fork := look(l, now); broke || fork {
			t.Errorf("at %d an honest log is reported: %t, %t", now, broke, fork)
		}
	}
	many := len(heads)
	if broke, fork := look(l, 31); broke || fork {
		t.Errorf("at 31 nothing is due yet, but: %t, %t", broke, fork)
	}
	if broke, fork := look(l, 32); !broke || fork {
		t.Errorf("at 32 a promise is due: %t, %t", broke, fork)
	}
	heads = heads[:many]
	l, _ = logd.Merge(l)
	l, _ = logd.Hide(l)
	if broke, fork := look(l, 32); broke || !fork {
		t.Errorf("a two-faced log: %t, %t", broke, fork)
	}
	if broke, fork := look(l, 40); !broke || !fork {
		t.Errorf("a two-faced log, in whose second view something is missing: %t, %t", broke, fork)
	}
}

// TestSignersAreReported: an honest signer's parts show nothing, a bad one's show what the policy refuses.
func TestSignersAreReported(t *testing.T) {
	c, shares := crew()
	one, _ := logd.New(0, []byte{0}, delay)
	two, _ := logd.New(2, []byte{2}, delay)
	logKeys, _ := issue.Keys([]api.Log{one, two})
	for k, name := range []string{"a.b", "x.b", "a.c", "y.x.b"} {
		draft, _ := issue.Draft(api.Wish{Names: []string{name}, Key: 4, Life: 9}, 5, 3, "greatseal")
		_, d, e := issue.Promises([]api.Log{one, two}, draft, 3)
		if e != api.OK {
			t.Fatal(e)
		}
		for _, c := range []api.Cert{d, draft} {
			partsOf(t, name, c, shares, logKeys, k%3 == 0 && len(c.Proms) == 2)
		}
	}
	if e := quorum.Check(c); e != api.OK {
		t.Fatal(e)
	}
}

func partsOf(t *testing.T, what string, d api.Cert, shares []api.Share, keys []api.Key, allowed bool) {
	t.Helper()
	c, _ := crew()
	body, _ := cert.Body(d)
	commits := commitsOf(4, body, 1, 2, 3)
	for at, s := range shares {
		honest, _ := signer.New(s)
		bad, _ := signer.Corrupt(honest)
		honest, _, e := signer.Commit(honest, 4, body, keys, table())
		if (e == api.OK) != allowed {
			t.Errorf("%s: Commit is %d", what, e)
		}
		_, part, e := signer.Part(c, honest, 4, body, commits)
		if (e == api.OK) != allowed {
			t.Errorf("%s: Part is %d", what, e)
		}
		if r := report.Rogue(body, commits, part); report.Check(r, keys, c, table()) != api.ErrProof {
			t.Errorf("%s: the honest signer %d is reported", what, at)
		}
		_, part, e = signer.Part(c, bad, 4, body, commits)
		if e != api.OK {
			t.Errorf("%s: Part of a bad one is %d", what, e)
		}
		if r := report.Rogue(body, commits, part); (report.Check(r, keys, c, table()) == api.OK) != !allowed {
			t.Errorf("%s: the bad signer %d is not reported as it should be", what, at)
		}
	}
}

// TestReportsAreShort: a few kilobytes.
func TestReportsAreShort(t *testing.T) {
	for _, r := range edges() {
		if b, e := report.Put(r); len(b) > 8192 || e != api.OK {
			t.Errorf("Put is of %d bytes, %d", len(b), e)
		}
	}
}

// R2

func TestNothingIsChangedOrShared(t *testing.T) {
	leaves, body, commits := sums(3), []byte("body"), []api.Share{{Id: 1, X: 4}, {Id: 2, X: 16}}
	r := report.Broke(promise(0, 2, sum(9)), head(0, 3, sum(5), 8), leaves)
	x := report.Rogue(body, commits, api.Share{Id: 1})
	leaves[0], body[0], commits[0].Id = sum(99), 'x', 9
	if r.Leaves[0] != sum(1) || x.Body[0] != 'b' || x.Commits[0].Id != 1 {
		t.Errorf("a report changes with what was handed in")
	}
	r.Leaves[1], x.Body[1], x.Commits[1].Id = sum(98), 'y', 8
	if leaves[1] != sum(2) || body[1] != 'o' || commits[1].Id != 2 {
		t.Errorf("what was handed in changes with a report")
	}
	c, _ := crew()
	for _, r := range all() {
		was, k := copied(r), keys()
		report.Check(r, k, c, table())
		b, _ := report.Put(r)
		if !report.Same(r, was) || !slices.Equal(k, keys()) {
			t.Errorf("a report, or keys, change when they are looked at")
		}
		x, _ := report.Get(b)
		kept := slices.Clone(b)
		y, _ := report.Get(b)
		clear(y.Body)
		if !bytes.Equal(b, kept) {
			t.Errorf("bytes change with what was got of them")
		}
		clear(b)
		if !report.Same(x, was) {
			t.Errorf("a report changes with the bytes of which it was got")
		}
	}
}

// The chapter's examples

func TestExamples(t *testing.T) {
	l, _ := logd.New(0, []byte{0}, delay)
	waits, p, _ := logd.Add(l, []byte("something"), 2)
	at := func(now int) api.Head { h, _ := logd.Head(waits, 0, 0, now); return h }
	proves(t, "a head at 8 of the size 0", report.Broke(p, at(8), nil))
	provesNothing(t, "a head at 7 of the size 0", report.Broke(p, at(7), nil))
	merged, _ := logd.Merge(waits)
	leaves, _ := logd.Leaves(merged, 0)
	h, _ := logd.Head(merged, 0, 1, 8)
	provesNothing(t, "a head at 8 that has it", report.Broke(p, h, leaves))

	only, shares, _ := quorum.Deal([]byte("only"), 1, 1)
	body := []byte("no certificate")
	commit, _ := quorum.Commit(shares[0], 1, body)
	part, e := quorum.Part(only, shares[0], 1, body, []api.Share{commit})
	if e != api.OK || report.Check(report.Rogue(body, []api.Share{commit}, part), keys(), only, table()) != api.OK {
		t.Errorf("a part of the only signer, of bytes that are no certificate's, is no report")
	}
}
