package merkle_test

import (
	"math"
	"slices"
	"strconv"
	"testing"

	"greatseal/api"
	"greatseal/hash"
	"greatseal/merkle"
)

// text is bytes that are all unlike their neighbours.
func text(length int) []byte {
	b := make([]byte, length)
	for k := range b {
		b[k] = byte(k*37 + length)
	}
	return b
}

// leaves are hashes, each unlike the others.
func leaves(many int) []api.Sum {
	l := make([]api.Sum, many)
	for k := range l {
		l[k] = merkle.Leaf([]byte("leaf " + strconv.Itoa(k)))
	}
	return l
}

// sizes are those at which a tree has another shape, up to the most.
func sizes() []int {
	var l []int
	for n := 1; n <= 17; n++ {
		l = append(l, n)
	}
	return append(l, 31, 32, 33, 63, 64, 65, 127, 128, 129, 254, 255, 256)
}

// some are places, or sizes, from one to another: all if they are few, else those about powers of two, and at both ends.
func some(from, to int) []int {
	var l []int
	for k := from; k <= to; k++ {
		if near := (k + 1) & k & (k - 1); to <= 33 || near == 0 || k < from+2 || k > to-3 {
			l = append(l, k)
		}
	}
	return l
}

// each are all places, or sizes, of the trees whose edges the chapter names, and some of the others.
func each(from, to, n int) []int {
	if n < 255 {
		return some(from, to)
	}
	var l []int
	for k := from; k <= to; k++ {
		l = append(l, k)
	}
	return l
}

// firstPart is the chapter's: the greatest power of two below how many there are.
func firstPart(n int) int {
	part := 1
	for part*2 < n {
		part *= 2
	}
	return part
}

func rootOf(l []api.Sum) api.Sum {
	if len(l) == 0 {
		return hash.Tagged("empty")
	}
	if len(l) == 1 {
		return l[0]
	}
	first := firstPart(len(l))
	return hash.Pair(rootOf(l[:first]), rootOf(l[first:]))
}

// proofOf is what the chapter says of Prove.
func proofOf(l []api.Sum, at int) []api.Sum {
	if len(l) == 1 {
		return nil
	}
	first := firstPart(len(l))
	if at < first {
		return append(proofOf(l[:first], at), rootOf(l[first:]))
	}
	return append(proofOf(l[first:], at-first), rootOf(l[:first]))
}

// growthOf is what the chapter says of Grow.
func growthOf(l []api.Sum, from int, known bool) []api.Sum {
	if from == 0 || from == len(l) && known {
		return nil
	}
	if from == len(l) {
		return []api.Sum{rootOf(l)}
	}
	first := firstPart(len(l))
	if from <= first {
		return append(growthOf(l[:first], from, known), rootOf(l[first:]))
	}
	return append(growthOf(l[first:], from-first, false), rootOf(l[:first]))
}

// leadsTo is what the chapter says that a proof leads to, from the last hash down.
func leadsTo(leaf api.Sum, at, size int, proof []api.Sum) (api.Sum, bool) {
	if size == 1 {
		return leaf, len(proof) == 0
	}
	if len(proof) == 0 {
		return api.Sum{}, false
	}
	ahead, other := proof[:len(proof)-1], proof[len(proof)-1]
	first := firstPart(size)
	if at < first {
		node, ok := leadsTo(leaf, at, first, ahead)
		return hash.Pair(node, other), ok
	}
	node, ok := leadsTo(leaf, at-first, size-first, ahead)
	return hash.Pair(other, node), ok
}

// growsTo is what the chapter says that a growth leads to: the root of the first from leaves, and that of all.
func growsTo(from, size int, a api.Sum, known bool, proof []api.Sum) (first, all api.Sum, ok bool) {
	if from == size && known {
		return a, a, len(proof) == 0
	}
	if len(proof) == 0 {
		return api.Sum{}, api.Sum{}, false
	}
	if from == size {
		return proof[0], proof[0], len(proof) == 1
	}
	ahead, other := proof[:len(proof)-1], proof[len(proof)-1]
	part := firstPart(size)
	if from <= part {
		first, all, ok = growsTo(from, part, a, known, ahead)
		return first, hash.Pair(all, other), ok
	}
	first, all, ok = growsTo(from-part, size-part, a, false, ahead)
	return hash.Pair(other, first), hash.Pair(other, all), ok
}

func proved(t *testing.T, l []api.Sum, at int) []api.Sum {
	t.Helper()
	proof, e := merkle.Prove(l, at)
	if e != api.OK {
		t.Fatalf("Prove(%d leaves, %d) tells %d", len(l), at, e)
	}
	return proof
}

func grown(t *testing.T, l []api.Sum, from int) []api.Sum {
	t.Helper()
	proof, e := merkle.Grow(l, from)
	if e != api.OK {
		t.Fatalf("Grow(%d leaves, %d) tells %d", len(l), from, e)
	}
	return proof
}

func checked(t *testing.T, what string, want api.Errno, leaf api.Sum, at, size int, proof []api.Sum, root api.Sum) {
	t.Helper()
	if e := merkle.Check(leaf, at, size, proof, root); e != want {
		t.Errorf("%s: Check(%v, %d, %d, %v, %v) is %d, not %d", what, leaf, at, size, proof, root, e, want)
	}
}

func grewBy(t *testing.T, what string, want api.Errno, from, size int, a, b api.Sum, proof []api.Sum) {
	t.Helper()
	if e := merkle.CheckGrow(from, size, a, b, proof); e != want {
		t.Errorf("%s: CheckGrow(%d, %d, %v, %v, %v) is %d, not %d", what, from, size, a, b, proof, e, want)
	}
}

// others are hashes that are not s, but near to it.
func others(s api.Sum) []api.Sum {
	return []api.Sum{{s[0] + 1, s[1]}, {s[0], s[1] + 1}, {s[1], s[0]}, {s[0] + api.P, s[1]}, {}, {s[0] ^ 1<<63, s[1]}, {s[0], s[1] ^ 1<<63}}
}

// altered are a proof with another hash in one place, or with two of them in the other order.
func altered(proof []api.Sum) [][]api.Sum {
	var all [][]api.Sum
	for k, s := range proof {
		for _, other := range others(s) {
			changed := slices.Clone(proof)
			changed[k] = other
			all = append(all, changed)
		}
		if k > 0 {
			changed := slices.Clone(proof)
			changed[k-1], changed[k] = changed[k], changed[k-1]
			all = append(all, changed)
		}
	}
	return all
}

// misfits are a proof with hashes too many, or too few.
func misfits(proof []api.Sum) [][]api.Sum {
	long := append(slices.Clone(proof), api.Sum{})
	all := [][]api.Sum{long, slices.Insert(slices.Clone(proof), 0, api.Sum{1, 2}), append(slices.Clone(long), make([]api.Sum, 300)...)}
	for k := range proof {
		all = append(all, proof[:k], proof[k+1:])
	}
	return all
}

func orForm(ok bool) api.Errno {
	if ok {
		return api.OK
	}
	return api.ErrForm
}

// P8.1

func TestLeafHasItsTag(t *testing.T) {
	for _, b := range [][]byte{nil, {}, {0}, []byte("leaf"), text(7), text(100), text(3000)} {
		if s := merkle.Leaf(b); s != hash.Tagged("leaf", b) {
			t.Errorf("Leaf(%v) is %v", b, s)
		}
	}
}

func TestRootIsOfBothParts(t *testing.T) {
	for _, n := range append(sizes(), 0, 257, 300, 511, 512, 513, 1000, 4097) {
		l := leaves(n)
		if s := merkle.Root(l); s != rootOf(l) {
			t.Errorf("Root of %d leaves is %v", n, s)
		}
	}
	if s := merkle.Root([]api.Sum{}); s != hash.Tagged("empty") || s != merkle.Root(nil) {
		t.Errorf("Root of no leaves is %v", s)
	}
}

func TestRootTakesAnyHashes(t *testing.T) {
	strange := []api.Sum{{}, {math.MaxUint64, api.P}, {api.P, 0}, {}, {1, math.MaxUint64}}
	for n := range len(strange) {
		if s := merkle.Root(strange[:n+1]); s != rootOf(strange[:n+1]) {
			t.Errorf("Root(%v) is %v", strange[:n+1], s)
		}
	}
}

// Numbers that were worked out apart from the program.
func TestHashesThatAreKnown(t *testing.T) {
	known := map[string]api.Sum{
		"":       {1850430062782736052, 642620234269171826},
		"\x00":   {1952377530557210930, 2289695904323254052},
		"leaf 0": {1601925164661409319, 1891210224125224199},
	}
	for b, want := range known {
		if s := merkle.Leaf([]byte(b)); s != want {
			t.Errorf("Leaf(%q) is %v, not %v", b, s, want)
		}
	}
	if s, want := merkle.Leaf(text(100)), (api.Sum{389433054982519588, 1240250298411475105}); s != want {
		t.Errorf("Leaf of 100 bytes is %v, not %v", s, want)
	}
	roots := map[int]api.Sum{
		0:   {1162256158096177331, 29559579101758109},
		1:   {1601925164661409319, 1891210224125224199},
		2:   {1903817121845515328, 661972937748490031},
		3:   {1623243849879302535, 1097464897791049259},
		4:   {1519618570790307419, 1867105020907216438},
		5:   {504531757852174285, 200812347345886636},
		7:   {1607858202746517154, 2282401504700993813},
		8:   {1759601388515027980, 58248222788244558},
		255: {524892504289311324, 1130923240987417799},
		256: {2292899466844011234, 463630673284095210},
		257: {240602292570645676, 906037256033511778},
		300: {444985833298346221, 675345328352540279},
	}
	for n, want := range roots {
		if s := merkle.Root(leaves(n)); s != want {
			t.Errorf("Root of %d leaves is %v, not %v", n, s, want)
		}
	}
}

func TestExamples(t *testing.T) {
	l := leaves(3)
	a, b, c := l[0], l[1], l[2]
	if s := merkle.Root(l); s != hash.Pair(hash.Pair(a, b), c) {
		t.Errorf("Root of three leaves is %v", s)
	}
	if proof := proved(t, l, 0); !slices.Equal(proof, []api.Sum{b, c}) {
		t.Errorf("Prove of 0 is %v", proof)
	}
	if proof := proved(t, l, 2); !slices.Equal(proof, []api.Sum{hash.Pair(a, b)}) {
		t.Errorf("Prove of 2 is %v", proof)
	}
	if proof := grown(t, l, 2); !slices.Equal(proof, []api.Sum{c}) {
		t.Errorf("Grow from 2 is %v", proof)
	}
	if s := merkle.Root(l[:1]); s != a {
		t.Errorf("the tree of one leaf has %v as its root", s)
	}
}

// P8.2

func TestProveTellsTheOtherParts(t *testing.T) {
	for _, n := range sizes() {
		l := leaves(n)
		for _, at := range each(0, n-1, n) {
			if proof := proved(t, l, at); !slices.Equal(proof, proofOf(l, at)) {
				t.Errorf("Prove(%d leaves, %d) is %v", n, at, proof)
			}
		}
	}
	l := leaves(256)
	known := []api.Sum{{1667242380607343125, 1494486415247836919}, {2248544002440410140, 599184748944246205}, {1519618570790307419, 1867105020907216438}}
	if proof := proved(t, l[:7], 4); !slices.Equal(proof, known) {
		t.Errorf("Prove(7 leaves, 4) is %v, not %v", proof, known)
	}
	if proof, want := proved(t, l, 255), (api.Sum{2125151567331791853, 1791596444098545072}); len(proof) != 8 || proof[7] != want {
		t.Errorf("Prove(256 leaves, 255) is %v, and does not end with %v", proof, want)
	}
}

func TestProveOfNoPlace(t *testing.T) {
	for _, n := range []int{0, 1, 2, 3, 4, 5, 7, 8, 255, 256} {
		for _, at := range []int{math.MinInt, -n - 1, -2, -1, n, n + 1, n + 256, math.MaxInt} {
			if proof, e := merkle.Prove(leaves(n), at); len(proof) != 0 || e != api.ErrSize {
				t.Errorf("Prove(%d leaves, %d) is %v, %d", n, at, proof, e)
			}
		}
	}
	for _, n := range []int{257, 258, 512, 1000} {
		for _, at := range []int{-1, 0, 1, 255, 256, n - 1, n} {
			if proof, e := merkle.Prove(leaves(n), at); len(proof) != 0 || e != api.ErrSize {
				t.Errorf("Prove(%d leaves, %d) is %v, %d", n, at, proof, e)
			}
		}
	}
}

func TestCheckTakesWhatIsProved(t *testing.T) {
	for _, n := range sizes() {
		l := leaves(n)
		root := merkle.Root(l)
		for _, at := range each(0, n-1, n) {
			checked(t, "proved", api.OK, l[at], at, n, proved(t, l, at), root)
		}
	}
}

func TestCheckOfNoPlace(t *testing.T) {
	l := leaves(8)
	proof, root := proved(t, l, 7), merkle.Root(l)
	for _, size := range []int{math.MinInt, -256, -1, 0, 1, 7, 8, 255, 256} {
		for _, at := range []int{math.MinInt, -1, max(0, size), max(0, size) + 1, math.MaxInt} {
			checked(t, "no place", api.ErrArg, l[7], at, size, proof, root)
			checked(t, "no place, of no proof", api.ErrArg, l[7], at, size, nil, l[7])
		}
	}
	for _, size := range []int{257, 258, 512, 1 << 32, math.MaxInt} {
		for _, at := range []int{-1, 0, 7, 256, size - 1} {
			checked(t, "too great", api.ErrArg, l[7], at, size, proof, root)
			checked(t, "too great", api.ErrArg, l[7], at, size, make([]api.Sum, 9), root)
		}
	}
	most := leaves(257)
	checked(t, "257 leaves", api.ErrArg, most[256], 256, 257, proofOf(most, 256), merkle.Root(most))
	checked(t, "257 leaves", api.ErrArg, most[0], 0, 257, proofOf(most, 0), merkle.Root(most))
}

func TestCheckOfTooManyHashesOrTooFew(t *testing.T) {
	for _, n := range sizes() {
		l := leaves(n)
		root := merkle.Root(l)
		for _, at := range some(0, n-1) {
			for _, proof := range misfits(proofOf(l, at)) {
				checked(t, "another length", api.ErrSize, l[at], at, n, proof, root)
				checked(t, "another length, and root", api.ErrSize, l[at], at, n, proof, api.Sum{})
			}
		}
	}
	// A proof that leads to the root on the way there is too long all the same.
	l := leaves(2)
	checked(t, "too long", api.ErrSize, l[0], 0, 2, []api.Sum{l[1], l[0]}, merkle.Root(l))
	checked(t, "too long", api.ErrSize, l[0], 0, 1, []api.Sum{l[1]}, l[0])
	checked(t, "too short", api.ErrSize, l[0], 0, 2, nil, l[0])
}

func TestCheckOfWhatIsAltered(t *testing.T) {
	for _, n := range []int{1, 2, 3, 4, 5, 7, 8, 13, 33, 255, 256} {
		l := leaves(n)
		root := merkle.Root(l)
		for _, at := range []int{0, n / 2, n - 1} {
			proof := proofOf(l, at)
			for _, other := range altered(proof) {
				checked(t, "altered", api.ErrForm, l[at], at, n, other, root)
			}
			for _, other := range others(l[at]) {
				checked(t, "another leaf", api.ErrForm, other, at, n, proof, root)
			}
			for _, other := range others(root) {
				checked(t, "another root", api.ErrForm, l[at], at, n, proof, other)
			}
		}
	}
}

// Whatever a proof was made for, Check goes by the place and the size that it is told.
func TestCheckOfAnotherPlaceOrSize(t *testing.T) {
	l := leaves(12)
	for n := 1; n <= 12; n++ {
		root := merkle.Root(l[:n])
		for at := range n {
			proof := proofOf(l[:n], at)
			for size := 1; size <= 17; size++ {
				for place := range size {
					node, ok := leadsTo(l[at], place, size, proof)
					want := orForm(node == root)
					if !ok {
						want = api.ErrSize
					}
					checked(t, "another place, or size", want, l[at], place, size, proof, root)
				}
			}
		}
	}
}

// P8.3

func TestGrowTellsWhatHasGrown(t *testing.T) {
	for _, n := range append(sizes(), 0) {
		l := leaves(n)
		for _, from := range each(0, n, n) {
			if proof := grown(t, l, from); !slices.Equal(proof, growthOf(l, from, true)) {
				t.Errorf("Grow(%d leaves, %d) is %v", n, from, proof)
			}
		}
		if all, none := grown(t, l, n), grown(t, l, 0); len(all) != 0 || len(none) != 0 {
			t.Errorf("Grow(%d leaves) from all is %v, from none %v", n, all, none)
		}
	}
	l := leaves(8)
	known := []api.Sum{{685494290341368674, 797797786048103016}, {1363289590576005744, 45051545777434905}, {1903817121845515328, 661972937748490031}, {1816437938306209951, 627986890017402471}}
	if proof := grown(t, l[:7], 3); !slices.Equal(proof, known) {
		t.Errorf("Grow(7 leaves, 3) is %v, not %v", proof, known)
	}
	known = []api.Sum{{1932273403747566979, 349609730014681614}, {1646181345707391363, 1807572654784581481}, {1519618570790307419, 1867105020907216438}}
	if proof := grown(t, l, 6); !slices.Equal(proof, known) {
		t.Errorf("Grow(8 leaves, 6) is %v, not %v", proof, known)
	}
}

func TestGrowFromNoSize(t *testing.T) {
	for _, n := range []int{0, 1, 2, 3, 4, 5, 7, 8, 255, 256} {
		for _, from := range []int{math.MinInt, -n - 1, -1, n + 1, n + 2, n + 256, math.MaxInt} {
			if proof, e := merkle.Grow(leaves(n), from); len(proof) != 0 || e != api.ErrSize {
				t.Errorf("Grow(%d leaves, %d) is %v, %d", n, from, proof, e)
			}
		}
	}
	for _, n := range []int{257, 258, 512, 1000} {
		for _, from := range []int{-1, 0, 1, 128, 255, 256, n, n + 1} {
			if proof, e := merkle.Grow(leaves(n), from); len(proof) != 0 || e != api.ErrSize {
				t.Errorf("Grow(%d leaves, %d) is %v, %d", n, from, proof, e)
			}
		}
	}
}

func TestCheckGrowTakesWhatHasGrown(t *testing.T) {
	for _, n := range append(sizes(), 0) {
		l := leaves(n)
		b := merkle.Root(l)
		for _, from := range each(0, n, n) {
			grewBy(t, "grown", api.OK, from, n, merkle.Root(l[:from]), b, grown(t, l, from))
		}
	}
}

func TestCheckGrowOfNoSize(t *testing.T) {
	l := leaves(8)
	proof, a, b := grown(t, l, 6), merkle.Root(l[:6]), merkle.Root(l)
	for _, size := range []int{math.MinInt, -256, -1, 0, 1, 5, 8, 255, 256} {
		for _, from := range []int{math.MinInt, -1, max(0, size+1), max(0, size+1) + 1, math.MaxInt} {
			grewBy(t, "no size", api.ErrArg, from, size, a, b, proof)
			grewBy(t, "no size, no proof", api.ErrArg, from, size, b, b, nil)
		}
	}
	for _, size := range []int{257, 258, 512, 1 << 32, math.MaxInt} {
		for _, from := range []int{-1, 0, 1, 6, 256, size} {
			grewBy(t, "too great", api.ErrArg, from, size, a, b, proof)
			grewBy(t, "too great, no proof", api.ErrArg, from, size, merkle.Root(nil), merkle.Root(nil), nil)
		}
	}
	most := leaves(257)
	grewBy(t, "257 leaves", api.ErrArg, 256, 257, merkle.Root(most[:256]), merkle.Root(most), growthOf(most, 256, true))
}

func TestCheckGrowOfTooManyHashesOrTooFew(t *testing.T) {
	for _, n := range append(sizes(), 0) {
		l := leaves(n)
		b := merkle.Root(l)
		for _, from := range some(0, n) {
			a := merkle.Root(l[:from])
			for _, proof := range misfits(growthOf(l, from, true)) {
				grewBy(t, "another length", api.ErrSize, from, n, a, b, proof)
				grewBy(t, "another length, and root", api.ErrSize, from, n, api.Sum{}, b, proof)
			}
		}
	}
}

func TestCheckGrowFromNothing(t *testing.T) {
	l := leaves(256)
	for _, n := range []int{0, 1, 2, 3, 8, 255, 256} {
		// Nothing is said of the later root: what was empty may have become anything.
		for _, b := range []api.Sum{merkle.Root(l[:n]), merkle.Root(nil), {}, {1, 2}} {
			grewBy(t, "from nothing", api.OK, 0, n, merkle.Root(nil), b, nil)
			for _, a := range append(others(merkle.Root(nil)), l[0]) {
				grewBy(t, "from nothing, of another root", api.ErrForm, 0, n, a, b, nil)
				grewBy(t, "from nothing, by a hash", api.ErrSize, 0, n, a, b, l[:1])
			}
		}
	}
	grewBy(t, "from nothing, of the later root", api.ErrForm, 0, 8, merkle.Root(l[:8]), merkle.Root(l[:8]), nil)
}

func TestCheckGrowFromAll(t *testing.T) {
	for _, n := range sizes() {
		root := merkle.Root(leaves(n))
		grewBy(t, "from all", api.OK, n, n, root, root, nil)
		for _, other := range others(root) {
			grewBy(t, "from all", api.ErrForm, n, n, root, other, nil)
			grewBy(t, "from all", api.ErrForm, n, n, other, root, nil)
			grewBy(t, "from all, of whatever root", api.OK, n, n, other, other, nil)
		}
	}
}

func TestCheckGrowOfWhatIsAltered(t *testing.T) {
	for _, n := range []int{2, 3, 4, 5, 7, 8, 13, 33, 255, 256} {
		l := leaves(n)
		b := merkle.Root(l)
		for _, from := range []int{1, n / 2, (n + 1) / 2, n - 1} {
			a, proof := merkle.Root(l[:from]), growthOf(l, from, true)
			for _, other := range altered(proof) {
				grewBy(t, "altered", api.ErrForm, from, n, a, b, other)
			}
			for _, other := range others(a) {
				grewBy(t, "another first root", api.ErrForm, from, n, other, b, proof)
			}
			for _, other := range others(b) {
				grewBy(t, "another later root", api.ErrForm, from, n, a, other, proof)
			}
			grewBy(t, "the other way round", api.ErrForm, from, n, b, a, proof)
		}
	}
}

// Whatever a growth was made for, CheckGrow goes by both sizes that it is told.
func TestCheckGrowOfOtherSizes(t *testing.T) {
	l := leaves(10)
	for n := 1; n <= 10; n++ {
		b := merkle.Root(l[:n])
		for made := 1; made <= n; made++ {
			a, proof := merkle.Root(l[:made]), growthOf(l[:n], made, true)
			for size := 1; size <= 17; size++ {
				for from := 1; from <= size; from++ {
					first, all, ok := growsTo(from, size, a, true, proof)
					want := orForm(first == a && all == b)
					if !ok {
						want = api.ErrSize
					}
					grewBy(t, "other sizes", want, from, size, a, b, proof)
				}
			}
		}
	}
}

// P8.4

// No proof that was made for anything shows that another leaf stands in a place.
func TestNoOtherLeafIsProved(t *testing.T) {
	const most = 9
	l := leaves(most)
	inner := []api.Sum{merkle.Root(l[:2]), merkle.Root(l[:4]), merkle.Root(l[:3]), merkle.Root(nil), {}}
	var proofs [][]api.Sum
	for n := 1; n <= most; n++ {
		for at := range n {
			proofs = append(proofs, proofOf(l[:n], at), growthOf(l[:n], at+1, true))
		}
	}
	for n := 1; n <= most; n++ {
		root := merkle.Root(l[:n])
		for at := range n {
			for _, proof := range proofs {
				for _, leaf := range append(inner, l...) {
					if merkle.Check(leaf, at, n, proof, root) == api.OK && leaf != l[at] {
						t.Errorf("%v is shown to be at %d of %d leaves, by %v", leaf, at, n, proof)
					}
				}
			}
		}
	}
}

// No growth that was made for anything shows that a tree has grown out of what it has not.
func TestNoOtherGrowthIsShown(t *testing.T) {
	const most = 9
	l := leaves(most)
	other := slices.Clone(l)
	other[0] = merkle.Leaf([]byte("another"))
	var proofs [][]api.Sum
	var roots []api.Sum
	for n := 1; n <= most; n++ {
		roots = append(roots, merkle.Root(l[:n]), merkle.Root(other[:n]))
		for from := 1; from <= n; from++ {
			proofs = append(proofs, growthOf(l[:n], from, true), growthOf(other[:n], from, true), proofOf(l[:n], from-1))
		}
	}
	for n := 1; n <= most; n++ {
		b := merkle.Root(l[:n])
		for from := 1; from <= n; from++ {
			for _, proof := range proofs {
				for _, a := range roots {
					if merkle.CheckGrow(from, n, a, b, proof) == api.OK && a != merkle.Root(l[:from]) {
						t.Errorf("%v is shown to be the root of %d of %d leaves, by %v", a, from, n, proof)
					}
				}
			}
		}
	}
}

// R2, R6

func TestNothingIsChangedOrKept(t *testing.T) {
	for _, n := range []int{1, 2, 3, 7, 8, 256} {
		spare := append(leaves(n), make([]api.Sum, 20)...)
		l := spare[:n]
		was := slices.Clone(spare)
		proof, growth := proved(t, l, n/2), grown(t, l, (n+1)/2)
		root, part := merkle.Root(l), merkle.Root(l[:(n+1)/2])
		told := [][]api.Sum{slices.Clone(proof), slices.Clone(growth)}
		checked(t, "unchanged", api.OK, l[n/2], n/2, n, proof, root)
		grewBy(t, "unchanged", api.OK, (n+1)/2, n, part, root, growth)
		if !slices.Equal(spare, was) || !slices.Equal(proof, told[0]) || !slices.Equal(growth, told[1]) {
			t.Errorf("of %d leaves something is changed", n)
		}
		clear(spare)
		if !slices.Equal(proof, told[0]) || !slices.Equal(growth, told[1]) {
			t.Errorf("what was told of %d leaves changes with them", n)
		}
		copy(spare, was)
		clear(proof)
		clear(growth)
		if !slices.Equal(proved(t, l, n/2), told[0]) || !slices.Equal(grown(t, l, (n+1)/2), told[1]) || !slices.Equal(spare, was) {
			t.Errorf("what is told of %d leaves hangs on what was told before", n)
		}
	}
}
