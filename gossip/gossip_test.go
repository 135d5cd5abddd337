package gossip_test

import (
	"encoding/binary"
	"math"
	"slices"
	"testing"

	"greatseal/api"
	"greatseal/cyclic"
	"greatseal/gossip"
	"greatseal/hash"
	"greatseal/logd"
	"greatseal/sign"
)

func secret(log int) uint64 { return sign.Secret([]byte{byte(log)}) }

func key(log int) api.Key {
	public, _ := sign.Public(secret(log))
	return api.Key{Log: log, Key: public, Delay: 5}
}

// keys are those of the logs 0, 1, 2 and 5.
func keys() []api.Key { return []api.Key{key(2), key(0), key(1), key(5)} }

// signed is a head with its log's signature.
func signed(h api.Head) api.Head {
	b := []byte("head")
	for _, n := range []int{h.Log, h.Size} {
		b = binary.BigEndian.AppendUint64(b, uint64(n))
	}
	b = append(b, hash.Bytes(h.Root)...)
	h.Sig, _ = sign.Sign(secret(h.Log), binary.BigEndian.AppendUint64(b, uint64(h.At)))
	return h
}

func head(log, size int, first, second uint64, at int) api.Head {
	return signed(api.Head{Log: log, Size: size, Root: api.Sum{first, second}, At: at})
}

// row are heads in order: each is unlike the next one in one thing alone that orders them, and those behind that thing fall.
func row() []api.Head {
	return []api.Head{
		head(0, 0, 0, 0, 0), head(0, 0, 0, 0, 9), head(0, 0, 0, 5, 3), head(0, 0, 4, 2, 1), head(0, 3, 1, 1, 0), head(0, 3, 1, 1, api.MaxTime), head(0, 256, 0, 7, 8),
		head(1, 2, 9, 9, 9), head(1, 2, 9, 9, 10), head(1, 2, 9, 10, 0), head(1, 2, 10, 0, 0), head(2, 1, 6, 6, 6), head(2, 1, api.P-1, api.P-1, 6), head(5, 0, 0, 0, 0),
	}
}

func pool(l ...api.Head) api.Pool { return api.Pool{L: l} }

// many is a pool of so many heads.
func many(number int) api.Pool {
	var p api.Pool
	for k := range number {
		p.L = append(p.L, head(k/350, k%350/2, 1, 1, k%2))
	}
	return p
}

func same(a, b api.Pool) bool { return slices.Equal(a.L, b.L) }

func samePools(a, b []api.Pool) bool { return slices.EqualFunc(a, b, same) }

// place is all of a head but for its signature.
func place(h api.Head) api.Head {
	h.Sig = api.Sig{}
	return h
}

func placed(l []api.Head, h api.Head) int {
	return slices.IndexFunc(l, func(other api.Head) bool { return place(other) == place(h) })
}

// wrong are heads that are not right.
func wrong() []api.Head {
	good := head(1, 2, 9, 9, 9)
	var l []api.Head
	for _, change := range []func(h *api.Head){func(h *api.Head) { h.Sig.E ^= 1 }, func(h *api.Head) { h.Sig.S ^= 1 }, func(h *api.Head) { h.Sig = api.Sig{} }, func(h *api.Head) { h.Size++ }, func(h *api.Head) { h.At++ }, func(h *api.Head) { h.Root[0]++ }, func(h *api.Head) { h.Root[1]++ }, func(h *api.Head) { h.Log = 0 }} {
		h := good
		change(&h)
		l = append(l, h)
	}
	// Of logs that nobody knows, and of numbers that none may have.
	return append(l, head(3, 2, 9, 9, 9), head(1, 257, 9, 9, 9), head(1, -1, 9, 9, 9), head(1, 2, 9, 9, -1), head(1, 2, 9, 9, api.MaxTime+1))
}

// P28.1

func checked(t *testing.T, want api.Errno, p api.Pool, keys []api.Key) {
	t.Helper()
	if e := gossip.Check(p, keys); e != want {
		t.Errorf("Check of %d heads, %v, is %d, not %d", len(p.L), p, e, want)
	}
	if want == api.OK {
		return
	}
	for _, h := range append(wrong()[:3], head(0, 0, 0, 0, 0), head(0, 50, 0, 0, 0)) {
		if x, e := gossip.Add(p, h, keys); e != want || !same(x, api.Pool{}) {
			t.Errorf("Add to %v is %v, %d, not %d", p, x, e, want)
		}
	}
}

func TestCheck(t *testing.T) {
	checked(t, api.OK, pool(), keys())
	checked(t, api.OK, pool(), nil)
	checked(t, api.OK, api.Pool{L: []api.Head{}}, nil)
	checked(t, api.OK, pool(row()...), keys())
	for _, h := range row() {
		checked(t, api.OK, pool(h), keys())
	}
	checked(t, api.OK, many(1024), keys())
	checked(t, api.ErrBound, many(1025), keys())
	checked(t, api.ErrBound, many(1100), nil)
	out := many(1025)
	out.L[7] = out.L[8]
	checked(t, api.ErrBound, out, keys())
	out = many(1024)
	out.L[1022], out.L[1023] = out.L[1023], out.L[1022]
	checked(t, api.ErrArg, out, keys())
	checked(t, api.ErrArg, out, nil)
	out = many(1024)
	out.L[1023].Sig.E ^= 1
	checked(t, api.ErrSig, out, keys())
}

func TestCheckOfTheOrder(t *testing.T) {
	l := row()
	for at := range len(l) - 1 {
		checked(t, api.OK, pool(l[at], l[at+1]), keys())
		checked(t, api.ErrArg, pool(l[at+1], l[at]), keys())
		for behind := at + 1; behind < len(l); behind++ {
			swapped := row()
			swapped[at], swapped[behind] = swapped[behind], swapped[at]
			checked(t, api.ErrArg, pool(swapped...), keys())
		}
		twice := row()
		twice[at] = twice[at+1]
		checked(t, api.ErrArg, pool(twice...), keys())
		// Of one place, whatever the signature is, which does not order them.
		for _, sig := range []api.Sig{{}, {E: l[at].Sig.E + 1, S: l[at].Sig.S}, {E: l[at].Sig.E, S: l[at].Sig.S - 1}} {
			other := l[at]
			other.Sig = sig
			checked(t, api.ErrArg, pool(l[at], other), keys())
			checked(t, api.ErrArg, pool(other, l[at]), keys())
		}
	}
	// Out of order, and not right.
	for _, h := range wrong() {
		checked(t, api.ErrArg, pool(head(5, 9, 0, 0, 0), h), keys())
	}
}

func TestCheckOfWhatIsNotRight(t *testing.T) {
	for _, h := range wrong() {
		checked(t, api.ErrSig, pool(h), keys())
		checked(t, api.ErrSig, pool(head(0, 0, 0, 0, 0), h), append(keys(), key(0)))
		checked(t, api.ErrSig, pool(h, head(5, 9, 0, 0, 0)), keys())
	}
	for at := range row() {
		l := row()
		l[at].Sig.S ^= 1
		checked(t, api.ErrSig, pool(l...), keys())
	}
	// The first key of a log counts.
	h := head(1, 2, 9, 9, 9)
	other := api.Key{Log: 1, Key: key(0).Key}
	checked(t, api.OK, pool(h), []api.Key{key(0), key(1), other})
	checked(t, api.ErrSig, pool(h), []api.Key{key(0), other, key(1)})
	checked(t, api.ErrSig, pool(h), []api.Key{key(0), key(2)})
	checked(t, api.ErrSig, pool(h), nil)
	checked(t, api.ErrSig, pool(h), []api.Key{{Log: 1, Key: 2}})
}

func added(t *testing.T, p api.Pool, h api.Head, want api.Pool, wantE api.Errno) {
	t.Helper()
	if x, e := gossip.Add(p, h, keys()); !same(x, want) || e != wantE {
		t.Errorf("Add(%v, %v) is %v, %d, not %v, %d", p, h, x, e, want, wantE)
	}
}

func TestAdd(t *testing.T) {
	for at, h := range row() {
		added(t, pool(), h, pool(h), api.OK)
		without := slices.Delete(row(), at, at+1)
		added(t, pool(without...), h, pool(row()...), api.OK)
		added(t, pool(row()...), h, pool(row()...), api.OK)
	}
	for _, h := range wrong() {
		added(t, pool(row()...), h, api.Pool{}, api.ErrSig)
		added(t, pool(), h, api.Pool{}, api.ErrSig)
	}
}

// TestAddOfAnotherSignature: a message has more than one signature that is right; the one that was there stays.
func TestAddOfAnotherSignature(t *testing.T) {
	h := head(1, 2, 9, 9, 9)
	other := otherSig(h)
	if e := logd.CheckHead(key(1), other); e != api.OK || other.Sig == h.Sig {
		t.Fatalf("CheckHead is %d", e)
	}
	added(t, pool(h), other, pool(h), api.OK)
	added(t, pool(other), h, pool(other), api.OK)
	added(t, pool(append(row()[:7:7], other)...), h, pool(append(row()[:7:7], other)...), api.OK)
}

func TestAddAtTheBounds(t *testing.T) {
	next := head(5, 7, 0, 0, 0)
	p := many(1023)
	full := pool(append(slices.Clone(p.L), next)...)
	added(t, p, next, full, api.OK)
	added(t, full, next, full, api.OK)
	added(t, full, p.L[500], full, api.OK)
	added(t, full, head(5, 7, 0, 0, 1), api.Pool{}, api.ErrBound)
	added(t, full, head(0, 0, 0, 0, 0), api.Pool{}, api.ErrBound)
	added(t, full, wrong()[0], api.Pool{}, api.ErrSig)
}

// P28.2

// otherSig is h with another signature, that is right, too: of another nonce.
func otherSig(h api.Head) api.Head {
	b := []byte("head")
	for _, n := range []int{h.Log, h.Size} {
		b = binary.BigEndian.AppendUint64(b, uint64(n))
	}
	b = binary.BigEndian.AppendUint64(append(b, hash.Bytes(h.Root)...), uint64(h.At))
	h.Sig = signedWith(secret(h.Log), 77, b)
	return h
}

// unsigned is h with a signature that is not right.
func unsigned(h api.Head) api.Head {
	h.Sig = api.Sig{E: 1, S: uint64(h.Size)}
	return h
}

// some are those of a row whose bits are set.
func some(bits int, change func(h api.Head) api.Head) api.Pool {
	var p api.Pool
	for at, h := range row() {
		if bits>>at&1 == 1 {
			p.L = append(p.L, change(h))
		}
	}
	return p
}

func asItIs(h api.Head) api.Head { return h }

func TestMerge(t *testing.T) {
	for a := 0; a < 1<<14; a += 37 {
		b := a * 2654435761 >> 7 & (1<<14 - 1)
		p, q := some(a, asItIs), some(b, unsigned)
		var want api.Pool
		for at, h := range row() {
			if a>>at&1 == 1 {
				want.L = append(want.L, h)
			} else if b>>at&1 == 1 {
				want.L = append(want.L, unsigned(h))
			}
		}
		if x := gossip.Merge(p, q); !same(x, want) {
			t.Fatalf("Merge(%v, %v) is %v, not %v", p, q, x, want)
		}
	}
	for bits := range []int{0, 1, 1 << 13, 1<<14 - 1} {
		p := some(bits, unsigned)
		for _, q := range []api.Pool{{}, p, some(bits, asItIs)} {
			if x := gossip.Merge(p, q); !same(x, p) {
				t.Errorf("Merge(%v, %v) is %v", p, q, x)
			}
		}
		if x := gossip.Merge(api.Pool{}, p); !same(x, p) {
			t.Errorf("Merge of none, and %v, is %v", p, x)
		}
	}
}

// outOfOrder are pools that are not in order.
func outOfOrder() []api.Pool {
	l := row()
	return []api.Pool{pool(l[1], l[0]), pool(l[0], l[0]), pool(l[0], unsigned(l[0])), pool(l[3], l[2], l[4]), pool(append(row(), l[0])...), pool(append(row(), l[13])...)}
}

func TestMergeOfWhatIsNotInOrder(t *testing.T) {
	for _, p := range outOfOrder() {
		for _, q := range []api.Pool{{}, pool(row()...), p, pool(row()[13])} {
			if x := gossip.Merge(p, q); len(x.L) != 0 {
				t.Errorf("Merge(%v, %v) is %v", p, q, x)
			}
			if x := gossip.Merge(q, p); len(x.L) != 0 {
				t.Errorf("Merge(%v, %v) is %v", q, p, x)
			}
		}
	}
}

func TestMergeOfMany(t *testing.T) {
	var p, q, want api.Pool
	for k := range 3000 {
		h := api.Head{Log: -5, Size: math.MinInt + k, Root: api.Sum{math.MaxUint64, 0}, At: -k}
		want.L = append(want.L, h)
		if k%2 == 0 {
			p.L = append(p.L, h)
		}
		if k%3 == 0 || k%2 == 1 {
			q.L = append(q.L, h)
		}
	}
	if x := gossip.Merge(p, q); !same(x, want) {
		t.Errorf("Merge of %d and %d heads has %d", len(p.L), len(q.L), len(x.L))
	}
}

// P28.3

// shuffled are pools of heads in several orders, of which many are of one place.
func shuffled() []api.Pool {
	pools := []api.Pool{{}, pool(row()...), many(40)}
	state := uint64(1)
	for number := 1; number < 120; number++ {
		var p api.Pool
		for range number % 12 {
			state = state*6364136223846793005 + 1442695040888963407
			n := int(state >> 35)
			p.L = append(p.L, api.Head{Log: n%3 - 1, Size: n / 3 % 3, Root: api.Sum{uint64(n / 9 % 2), uint64(n / 18 % 2)}, At: n / 36 % 4, Sig: api.Sig{S: state}})
		}
		pools = append(pools, p)
	}
	return pools
}

func TestLast(t *testing.T) {
	for _, p := range shuffled() {
		for log := -2; log < 7; log++ {
			var want api.Head
			wantFound := false
			for _, h := range p.L {
				if h.Log == log && (!wantFound || h.Size > want.Size || h.Size == want.Size && h.At >= want.At) {
					want, wantFound = h, true
				}
			}
			if h, found := gossip.Last(p, log); h != want || found != wantFound {
				t.Errorf("Last(%v, %d) is %v, %t, not %v", p, log, h, found, want)
			}
		}
	}
	l := []api.Head{{Log: 1, Size: -5, At: -7}, {Log: 0, Size: math.MaxInt, At: 5}, {Log: 1, Size: math.MinInt, At: 3}}
	if h, found := gossip.Last(pool(l...), 1); h != l[0] || !found {
		t.Errorf("Last of sizes below 0 is %v", h)
	}
	// Not by the time ahead of the size, and of the same of both the last one, whatever its root.
	l = []api.Head{{Size: 3, Root: api.Sum{9}, At: 5}, {Size: 2, At: 90}, {Size: 3, Root: api.Sum{4}, At: 5}, {Size: 3, At: 4}}
	if h, found := gossip.Last(pool(l...), 0); h != l[2] || !found {
		t.Errorf("Last is %v", h)
	}
	l[2].At = 4
	if h, _ := gossip.Last(pool(l...), 0); h != l[0] {
		t.Errorf("Last is %v", h)
	}
}

// forkOf is what the chapter says of Fork, word by word.
func forkOf(p api.Pool) (a, b api.Head, is bool) {
	for at, a := range p.L {
		for _, b := range p.L[at+1:] {
			if a.Log == b.Log && a.Size == b.Size && a.Root != b.Root {
				return a, b, true
			}
		}
	}
	return api.Head{}, api.Head{}, false
}

func forked(t *testing.T, p api.Pool) bool {
	t.Helper()
	wantA, wantB, want := forkOf(p)
	a, b, is := gossip.Fork(p)
	if a != wantA || b != wantB || is != want {
		t.Errorf("Fork(%v) is %v, %v, %t, not %v, %v, %t", p, a, b, is, wantA, wantB, want)
	}
	return is
}

func TestFork(t *testing.T) {
	forks := 0
	for _, p := range shuffled() {
		if forked(t, p) {
			forks++
		}
	}
	if forks < 20 || forks > 100 {
		t.Errorf("of all pools %d have a fork", forks)
	}
	for _, x := range []struct {
		l  []api.Head
		is bool
	}{
		{[]api.Head{{Size: 3, Root: api.Sum{1, 2}}, {Size: 3, Root: api.Sum{1, 2}, At: 9, Sig: api.Sig{E: 4}}}, false},
		{[]api.Head{{Size: 3, Root: api.Sum{1, 2}}, {Size: 3, Root: api.Sum{1, 3}}}, true}, {[]api.Head{{Size: 3, Root: api.Sum{1, 2}}, {Size: 3, Root: api.Sum{0, 2}}}, true},
		{[]api.Head{{Size: 3, Root: api.Sum{1, 2}}, {Size: 4, Root: api.Sum{1, 3}}}, false}, {[]api.Head{{Size: 3, Root: api.Sum{1, 2}}, {Log: 1, Size: 3, Root: api.Sum{1, 3}}}, false},
		// Of two forks the one whose first head stands first, though the other's second one does.
		{[]api.Head{{Log: 1}, {Log: 2}, {Log: 2, Root: api.Sum{5}}, {Log: 1, Root: api.Sum{6}}, {Log: 1, Root: api.Sum{7}}}, true},
		{[]api.Head{{Log: 1}, {Log: 1, At: 1}, {Log: 1, Root: api.Sum{6}}, {Log: 1, Root: api.Sum{7}}}, true},
	} {
		if forked(t, pool(x.l...)) != x.is {
			t.Errorf("Fork(%v) is %t", x.l, !x.is)
		}
	}
}

// P28.4

// spread is what the chapter says of Spread, word by word.
func spread(l []api.Pool, pairs [][2]int) []api.Pool {
	l = slices.Clone(l)
	for _, pair := range pairs {
		a, b := pair[0], pair[1]
		if a != b && a >= 0 && b >= 0 && a < len(l) && b < len(l) {
			both := gossip.Merge(l[a], l[b])
			l[a], l[b] = both, both
		}
	}
	return l
}

func TestSpread(t *testing.T) {
	pools := []api.Pool{pool(row()[:3]...), pool(row()[2:6]...), {}, pool(unsigned(row()[0]), row()[13]), pool(row()[4], row()[9])}
	for _, x := range []struct {
		pairs [][2]int
		want  []int
	}{
		{nil, []int{3, 4, 0, 2, 2}}, {[][2]int{{0, 1}}, []int{6, 6, 0, 2, 2}}, {[][2]int{{1, 0}, {2, 1}}, []int{6, 6, 6, 2, 2}}, {[][2]int{{2, 3}}, []int{3, 4, 2, 2, 2}},
		{[][2]int{{0, 0}, {4, 4}}, []int{3, 4, 0, 2, 2}}, {[][2]int{{-1, 0}, {0, -1}, {5, 0}, {0, 5}, {math.MinInt, 1}, {1, math.MaxInt}, {5, 5}, {-1, 7}}, []int{3, 4, 0, 2, 2}},
		{[][2]int{{0, 5}, {0, 1}, {1, 1}, {1, 2}}, []int{6, 6, 6, 2, 2}}, {[][2]int{{0, 1}, {1, 2}, {2, 3}, {3, 4}, {2, 3}, {1, 2}, {0, 1}}, []int{8, 8, 8, 8, 8}},
		{[][2]int{{4, 0}, {0, 4}, {3, 1}}, []int{5, 6, 0, 6, 5}},
	} {
		got := gossip.Spread(pools, x.pairs)
		var sizes []int
		for _, p := range got {
			sizes = append(sizes, len(p.L))
		}
		if !samePools(got, spread(pools, x.pairs)) || !slices.Equal(sizes, x.want) {
			t.Errorf("Spread by %v is %v, of the sizes %v, not %v", x.pairs, got, sizes, x.want)
		}
	}
	// Of heads of one place those of the first one of a pair stay.
	for _, pair := range [][2]int{{0, 3}, {3, 0}} {
		want := pools[pair[0]].L[0]
		if got := gossip.Spread(pools, [][2]int{pair}); got[0].L[0] != want || got[3].L[0] != want {
			t.Errorf("Spread by %v tells %v", pair, got)
		}
	}
	if got := gossip.Spread(nil, [][2]int{{0, 0}, {0, 1}}); len(got) != 0 {
		t.Errorf("Spread of none is %v", got)
	}
	// Pools that are not in order stay, unless they are told on.
	for _, p := range outOfOrder() {
		l := []api.Pool{p, pool(row()...), p}
		if got := gossip.Spread(l, [][2]int{{0, 1}, {1, 1}}); !samePools(got, []api.Pool{{}, {}, p}) {
			t.Errorf("Spread of a pool that is not in order is %v", got)
		}
		if got := gossip.Spread(l, [][2]int{{0, 0}, {2, 2}}); !samePools(got, l) {
			t.Errorf("Spread of pools to themselves is %v", got)
		}
	}
}

// P28.5

func TestAllHoldWhatAnyHeld(t *testing.T) {
	for start := range 40 {
		var l []api.Pool
		var all api.Pool
		for k := range 5 {
			p := some(start*977*(k+1)>>k&(1<<14-1), asItIs)
			l = append(l, p)
			all = gossip.Merge(all, p)
		}
		var pairs [][2]int
		for _, at := range []int{0, 1, 2, 3, 2, 1, 0} {
			pairs = append(pairs, [2]int{at, at + 1})
		}
		_, _, is := gossip.Fork(all)
		for k, p := range gossip.Spread(l, pairs) {
			for _, one := range l {
				for _, h := range one.L {
					if placed(p.L, h) < 0 {
						t.Errorf("%d has not %v", k, h)
					}
				}
			}
			if _, _, knows := gossip.Fork(p); !same(p, all) || knows != is {
				t.Errorf("%d holds %v, not %v", k, p, all)
			}
		}
	}
}

// R2

func TestNothingIsChangedOrShared(t *testing.T) {
	extra := api.Head{Log: -1}
	roomy := func(l []api.Head) api.Pool { return pool(append(slices.Clone(l), extra, extra)[:len(l)]...) }
	first, second := row()[:9], row()[6:]
	for k, call := range []func(p, q api.Pool) []api.Pool{
		func(p, q api.Pool) []api.Pool {
			x, _ := gossip.Add(p, head(1, 2, 9, 9, 12), keys())
			return []api.Pool{x}
		},
		func(p, q api.Pool) []api.Pool { x, _ := gossip.Add(p, row()[3], keys()); return []api.Pool{x} },
		func(p, q api.Pool) []api.Pool { return []api.Pool{gossip.Merge(p, q)} },
		func(p, q api.Pool) []api.Pool { return []api.Pool{gossip.Merge(p, api.Pool{})} },
		func(p, q api.Pool) []api.Pool { return []api.Pool{gossip.Merge(api.Pool{}, q)} },
		func(p, q api.Pool) []api.Pool { return gossip.Spread([]api.Pool{p, q}, nil) },
		func(p, q api.Pool) []api.Pool { return gossip.Spread([]api.Pool{p, q, p}, [][2]int{{0, 1}}) },
	} {
		p, q := roomy(first), roomy(second)
		x := call(p, q)
		var was []api.Pool
		for _, one := range x {
			was = append(was, pool(slices.Clone(one.L)...))
		}
		if !same(p, pool(first...)) || !same(q, pool(second...)) || p.L[:len(first)+1][len(first)] != extra {
			t.Errorf("call %d changes what is handed in", k)
		}
		clear(p.L[:cap(p.L)])
		clear(q.L[:cap(q.L)])
		if !samePools(x, was) {
			t.Errorf("what call %d has told changes with what was handed in", k)
		}
		p, q = roomy(first), roomy(second)
		x = call(p, q)
		clear(x[0].L)
		if len(x) > 1 && !same(x[1], was[1]) {
			t.Errorf("what call %d has told of one changes with what it has told of another one", k)
		}
		for _, one := range x {
			clear(one.L[:cap(one.L)])
		}
		if !same(p, pool(first...)) || !same(q, pool(second...)) {
			t.Errorf("what was handed in changes with what call %d has told", k)
		}
	}
	l := []api.Pool{roomy(first), roomy(second)}
	gossip.Spread(l, [][2]int{{0, 1}})
	if !same(l[0], pool(first...)) || !same(l[1], pool(second...)) {
		t.Errorf("Spread changes what is handed in")
	}
}

// The chapter's example

func TestExample(t *testing.T) {
	a, b := head(0, 3, 1, 2, 5), head(0, 3, 1, 3, 5)
	l := []api.Pool{pool(b), pool(a)}
	for _, p := range l {
		if _, _, is := gossip.Fork(p); is {
			t.Errorf("Fork of %v tells one", p)
		}
	}
	for _, p := range gossip.Spread(l, [][2]int{{0, 1}}) {
		if x, y, is := gossip.Fork(p); x != a || y != b || !is {
			t.Errorf("Fork of %v is %v, %v, %t", p, x, y, is)
		}
	}
}

// signedWith is a signature with a nonce that is told.
func signedWith(secret, nonce uint64, msg []byte) api.Sig {
	public, _ := sign.Public(secret)
	challenge := sign.Challenge(cyclic.Base(nonce), public, msg)
	return api.Sig{E: challenge, S: cyclic.AddR(nonce, cyclic.MulR(challenge, secret))}
}
