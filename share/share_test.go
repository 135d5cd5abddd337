package share_test

import (
	"math"
	"math/big"
	"slices"
	"testing"

	"greatseal/api"
	"greatseal/cyclic"
	"greatseal/hash"
	"greatseal/share"
)

const (
	q = uint64(api.Q)
	r = uint64(api.R)
)

// lastId is the greatest Id that there may be.
const lastId = api.R - 1

// text is bytes that are all unlike their neighbours.
func text(length int) []byte {
	b := make([]byte, length)
	for k := range b {
		b[k] = byte(k*37 + length)
	}
	return b
}

func seeds() [][]byte { return [][]byte{nil, {0}, {1}, []byte("seed"), text(64), text(1000)} }

// secrets are those at both ends, and some between.
func secrets() []uint64 {
	return []uint64{0, 1, 2, r / 2, r/2 + 1, r - 2, r - 1, 123456789, 1 << 59}
}

// noExponents are R at least.
func noExponents() []uint64 {
	return []uint64{r, r + 1, 2*r - 1, 2 * r, q - 1, q, 1 << 61, 1 << 63, math.MaxUint64 - 1, math.MaxUint64}
}

// notOfTheGroup are no squares, 0, or Q at least.
func notOfTheGroup() []uint64 {
	return []uint64{0, q - 1, q - 4, q - 16, q, q + 1, q + 4, 2*q + 4, 1 << 63, math.MaxUint64 - 1, math.MaxUint64}
}

// noIds may not be an Id of a share, whatever the others are.
func noIds() []int {
	return []int{math.MinInt, math.MinInt + 1, -api.R, 1 - api.R, -1, 0, api.R, api.R + 1, 2*api.R + 1, 7*api.R + 1, math.MaxInt - 1, math.MaxInt}
}

// rightIds are lists of Ids that are right: of one, of seven, in order and not, at both ends.
func rightIds() [][]int {
	return [][]int{
		{1}, {2}, {5}, {lastId}, {1, 2}, {2, 1}, {1, lastId}, {lastId, 1}, {lastId - 1, lastId},
		{1, 2, 3}, {3, 1, 7}, {7, 6, 5}, {1 << 32, lastId - 1, 77}, {4, 3, 2, 1}, {1, 2, 4, 8, 16},
		{7, 1, 6, 2, 5, 3}, {1, 2, 3, 4, 5, 6, 7}, {7, 6, 5, 4, 3, 2, 1}, {lastId, 1 << 59, 3, 1, 2, lastId - 1, 1 << 40},
	}
}

// wrongIds are none, too many, alike, or have one that may not be.
func wrongIds() [][]int {
	l := [][]int{
		nil, {}, {1, 2, 3, 4, 5, 6, 7, 8}, {1, 1}, {1, 2, 1}, {2, 1, 1}, {lastId, 5, lastId}, {1, 2, 3, 4, 5, 6, 6},
		{1, 2, 3, 4, 5, 6, 7, 7}, make([]int, 7), make([]int, 100),
	}
	for _, id := range noIds() {
		l = append(l, []int{id}, []int{id, 1, 2}, []int{1, id, 2}, []int{1, 2, id}, []int{1, 2, 3, 4, 5, 6, id})
	}
	return l
}

func whole(n uint64) *big.Int { return new(big.Int).SetUint64(n) }

func num(s api.Sum, below uint64) uint64 {
	n := new(big.Int).Lsh(whole(s[0]), 61)
	n.Add(n, whole(s[1]))
	return n.Mod(n, whole(below)).Uint64()
}

// coefficients are the chapter's polynomial.
func coefficients(secret uint64, t int, seed []byte) []uint64 {
	poly := []uint64{secret}
	for i := 1; i < t; i++ {
		poly = append(poly, num(hash.Tagged("share", seed, []byte{byte(i)}), r))
	}
	return poly
}

// valueAt is a polynomial's value, of whole numbers, modulo R at the end alone.
func valueAt(poly []uint64, x int) uint64 {
	sum, power := new(big.Int), big.NewInt(1)
	for _, c := range poly {
		sum.Add(sum, new(big.Int).Mul(whole(c), power))
		power.Mul(power, big.NewInt(int64(x)))
	}
	return sum.Mod(sum, whole(r)).Uint64()
}

// valuesAt are shares of a polynomial, of whatever Ids.
func valuesAt(poly []uint64, ids []int) []api.Share {
	var l []api.Share
	for _, id := range ids {
		l = append(l, api.Share{Id: id, X: valueAt(poly, id)})
	}
	return l
}

// weightOf is the chapter's weight, of whole numbers: one product divided by another.
func weightOf(ids []int, id int) uint64 {
	above, below := big.NewInt(1), big.NewInt(1)
	for _, k := range ids {
		if k != id {
			above.Mul(above, big.NewInt(int64(k)))
			below.Mul(below, big.NewInt(int64(k-id)))
		}
	}
	below.ModInverse(below, whole(r))
	return above.Mod(above.Mul(above, below), whole(r)).Uint64()
}

func split(t *testing.T, secret uint64, of, n int, seed []byte) []api.Share {
	t.Helper()
	l, e := share.Split(secret, of, n, seed)
	if e != api.OK {
		t.Fatalf("Split(%d, %d, %d, %v) tells %d", secret, of, n, seed, e)
	}
	return l
}

func public(t *testing.T, l []api.Share) []api.Share {
	t.Helper()
	p, e := share.Public(l)
	if e != api.OK {
		t.Fatalf("Public(%v) tells %d", l, e)
	}
	return p
}

func joined(t *testing.T, what string, want uint64, l []api.Share) {
	t.Helper()
	if n, e := share.Join(l); n != want || e != api.OK {
		t.Errorf("%s: Join(%v) is %d, %d, not %d", what, l, n, e, want)
	}
}

func notJoined(t *testing.T, want api.Errno, l []api.Share) {
	t.Helper()
	if n, e := share.Join(l); n != 0 || e != want {
		t.Errorf("Join(%v) is %d, %d, not %d", l, n, e, want)
	}
}

func checked(t *testing.T, what string, want api.Errno, of int, l []api.Share) {
	t.Helper()
	if e := share.Check(of, l); e != want {
		t.Errorf("%s: Check(%d, %v) is %d, not %d", what, of, l, e, want)
	}
}

// some are all choices of how many of l, in l's order.
func some(l []api.Share, many int) [][]api.Share {
	var all [][]api.Share
	for set := range 1 << len(l) {
		var chosen []api.Share
		for k, s := range l {
			if set>>k&1 == 1 {
				chosen = append(chosen, s)
			}
		}
		if len(chosen) == many {
			all = append(all, chosen)
		}
	}
	return all
}

// turned are orders of l: as it is, the other way round, and turned round by each number.
func turned(l []api.Share) [][]api.Share {
	back := slices.Clone(l)
	slices.Reverse(back)
	all := [][]api.Share{back}
	for k := range l {
		all = append(all, slices.Concat(l[k:], l[:k]))
	}
	return all
}

// P5.1

// The numbers were worked out apart from the program.
func TestSharesOfSecrets(t *testing.T) {
	for _, x := range []struct {
		secret uint64
		t, n   int
		seed   []byte
		want   []uint64
	}{
		{0, 1, 1, nil, []uint64{0}},
		{5, 1, 3, []byte("seed"), []uint64{5, 5, 5}},
		{r - 1, 2, 3, nil, []uint64{897569676109158342, 642217847611470896, 386866019113783450}},
		{r - 1, 2, 3, []byte{}, []uint64{897569676109158342, 642217847611470896, 386866019113783450}},
		{0, 2, 2, []byte{0}, []uint64{111762716636701901, 223525433273403802}},
		{123456789, 3, 5, []byte("seed"), []uint64{514409309718237777, 599045097703158450, 253907364078218808, 631917613450264640, 580154341212450157}},
		{r - 1, 7, 7, text(1000), []uint64{798217526381858647, 290114863175912704, 172489820681163684, 189005054032990415, 405386337732668595, 799880302916941533, 474814646581333653}},
		{0, 7, 7, nil, []uint64{1127726063129707628, 682661756485855217, 1027658547526410890, 88070862402877646, 885496816335868064, 187056749745240326, 81226745194935541}},
	} {
		var want []api.Share
		for k, n := range x.want {
			want = append(want, api.Share{Id: k + 1, X: n})
		}
		if l, e := share.Split(x.secret, x.t, x.n, x.seed); !slices.Equal(l, want) || e != api.OK {
			t.Errorf("Split(%d, %d, %d, %v) is %v, %d, not %v", x.secret, x.t, x.n, x.seed, l, e, want)
		}
	}
}

func TestSharesAreWhatTheChapterSays(t *testing.T) {
	for _, secret := range secrets() {
		for _, seed := range seeds() {
			for n := 1; n <= 7; n++ {
				for of := 1; of <= n; of++ {
					want := valuesAt(coefficients(secret, of, seed), []int{1, 2, 3, 4, 5, 6, 7}[:n])
					if l := split(t, secret, of, n, seed); !slices.Equal(l, want) {
						t.Errorf("Split(%d, %d, %d, %v) is %v, not %v", secret, of, n, seed, l, want)
					}
				}
			}
		}
	}
}

// The chapter's example.
func TestWhereOneIsEnoughEachShareIsTheSecret(t *testing.T) {
	for _, secret := range secrets() {
		for n := 1; n <= 7; n++ {
			for _, s := range split(t, secret, 1, n, []byte("seed")) {
				if s.X != secret {
					t.Errorf("of %d the share %v", secret, s)
				}
			}
		}
	}
}

func TestWhatIsNotSplit(t *testing.T) {
	refused := func(secret uint64, of, n int) {
		t.Helper()
		for _, seed := range [][]byte{nil, []byte("seed")} {
			if l, e := share.Split(secret, of, n, seed); len(l) != 0 || e != api.ErrArg {
				t.Errorf("Split(%d, %d, %d, %v) is %v, %d", secret, of, n, seed, l, e)
			}
		}
	}
	for _, n := range []int{1, 2, 6, 7} {
		for _, of := range []int{math.MinInt, -1, 0, n + 1, 8, api.R + 1, math.MaxInt} {
			refused(5, of, n)
		}
		for _, secret := range noExponents() {
			refused(secret, 1, n)
			refused(secret, n, n)
			refused(secret, 0, n)
		}
	}
	for _, n := range []int{math.MinInt, -1, 0, 8, 9, 256, 257, api.R, math.MaxInt} {
		for _, of := range []int{math.MinInt, -1, 0, 1, 2, 7, 8, n - 1, n} {
			refused(5, of, n)
		}
	}
}

// P5.2

// The numbers were worked out apart from the program; those of 1 and 2 are the chapter's.
func TestWeights(t *testing.T) {
	for _, x := range []struct {
		ids  []int
		id   int
		want uint64
	}{
		{[]int{1, 2}, 1, 2},
		{[]int{1, 2}, 2, r - 1},
		{[]int{2, 1}, 1, 2},
		{[]int{1}, 1, 1},
		{[]int{5}, 5, 1},
		{[]int{lastId}, lastId, 1},
		{[]int{1, 2, 3}, 2, r - 3},
		{[]int{3, 1, 7}, 7, 432345564227567171},
		{[]int{1, 2, 3, 4, 5, 6, 7}, 4, r - 35},
		{[]int{lastId, 1}, 1, 576460752303422895},
		{[]int{lastId, 1}, lastId, 576460752303422895},
		{[]int{1 << 32, lastId - 1, 77}, lastId - 1, 1071036171897396534},
	} {
		if n, e := share.Weight(x.ids, x.id); n != x.want || e != api.OK {
			t.Errorf("Weight(%v, %d) is %d, %d, not %d", x.ids, x.id, n, e, x.want)
		}
	}
}

func TestWeightsAreThoseOfWholeNumbers(t *testing.T) {
	for _, ids := range rightIds() {
		for _, id := range ids {
			if n, e := share.Weight(ids, id); n != weightOf(ids, id) || e != api.OK {
				t.Errorf("Weight(%v, %d) is %d, %d, not %d", ids, id, n, e, weightOf(ids, id))
			}
		}
	}
}

func TestWhatHasNoWeight(t *testing.T) {
	refused := func(ids []int, id int) {
		t.Helper()
		if n, e := share.Weight(ids, id); n != 0 || e != api.ErrArg {
			t.Errorf("Weight(%v, %d) is %d, %d", ids, id, n, e)
		}
	}
	for _, ids := range wrongIds() {
		for _, id := range []int{0, 1, 2, lastId} {
			refused(ids, id)
		}
		for _, id := range ids {
			refused(ids, id)
		}
	}
	for _, ids := range rightIds() {
		for _, id := range append(noIds(), 9, 1000, lastId-2) {
			refused(ids, id)
		}
	}
}

// P5.3

// The chapter's example, and those at the ends.
func TestSecretsOfShares(t *testing.T) {
	joined(t, "the chapter's", 3, []api.Share{{Id: 1, X: 5}, {Id: 2, X: 7}})
	joined(t, "turned about", 3, []api.Share{{Id: 2, X: 7}, {Id: 1, X: 5}})
	joined(t, "one", 9, []api.Share{{Id: lastId, X: 9}})
	joined(t, "R - 1", r-1, []api.Share{{Id: 1, X: r - 1}})
	joined(t, "0", 0, []api.Share{{Id: 1}, {Id: 2}, {Id: 7}})
	joined(t, "R - 1 twice", r-1, []api.Share{{Id: 1, X: r - 1}, {Id: lastId, X: r - 1}})
}

func TestSecretsOfSharesAreThoseOfWholeNumbers(t *testing.T) {
	for _, ids := range rightIds() {
		for _, xs := range [][7]uint64{{}, {r - 1, r - 1, r - 1, r - 1, r - 1, r - 1, r - 1}, {1, r - 1, 2, r / 2, 0, 1 << 59, 7}} {
			var l []api.Share
			sum := new(big.Int)
			for k, id := range ids {
				l = append(l, api.Share{Id: id, X: xs[k]})
				sum.Add(sum, new(big.Int).Mul(whole(xs[k]), whole(weightOf(ids, id))))
			}
			joined(t, "the sum", sum.Mod(sum, whole(r)).Uint64(), l)
		}
	}
}

// withIds are shares of whatever Ids, with an X that may be.
func withIds(ids []int, x uint64) []api.Share {
	var l []api.Share
	for _, id := range ids {
		l = append(l, api.Share{Id: id, X: x})
	}
	return l
}

// spoiled are l with one X, each in turn, that is another number.
func spoiled(l []api.Share, x uint64) [][]api.Share {
	var all [][]api.Share
	for k := range l {
		other := slices.Clone(l)
		other[k].X = x
		all = append(all, other)
	}
	return all
}

func TestWhatIsNotJoined(t *testing.T) {
	notJoined(t, api.ErrFew, nil)
	notJoined(t, api.ErrFew, []api.Share{})
	for _, ids := range wrongIds() {
		if len(ids) != 0 {
			notJoined(t, api.ErrArg, withIds(ids, 1))
			notJoined(t, api.ErrArg, withIds(ids, r))
		}
	}
	for _, ids := range rightIds() {
		for _, x := range noExponents() {
			for _, l := range spoiled(withIds(ids, 1), x) {
				notJoined(t, api.ErrArg, l)
			}
		}
	}
}

func TestPublicShares(t *testing.T) {
	for _, ids := range rightIds() {
		for _, x := range []uint64{0, 1, 2, r / 2, r - 2, r - 1} {
			l := withIds(ids, x)
			l[len(l)-1].X = 3
			want := slices.Clone(l)
			for k, s := range l {
				want[k].X = new(big.Int).Exp(big.NewInt(api.G), whole(s.X), whole(q)).Uint64()
			}
			if p := public(t, l); !slices.Equal(p, want) {
				t.Errorf("Public(%v) is %v, not %v", l, p, want)
			}
		}
	}
	if p := public(t, []api.Share{{Id: 7, X: 0}, {Id: 1, X: 3}}); !slices.Equal(p, []api.Share{{Id: 7, X: 1}, {Id: 1, X: 64}}) {
		t.Error("of 0 and 3:", p)
	}
}

func TestWhatHasNoPublicShares(t *testing.T) {
	refused := func(l []api.Share) {
		t.Helper()
		if p, e := share.Public(l); len(p) != 0 || e != api.ErrArg {
			t.Errorf("Public(%v) is %v, %d", l, p, e)
		}
	}
	for _, ids := range wrongIds() {
		refused(withIds(ids, 1))
		refused(withIds(ids, r))
	}
	for _, ids := range rightIds() {
		for _, x := range noExponents() {
			for _, l := range spoiled(withIds(ids, 1), x) {
				refused(l)
			}
		}
	}
}

// P5.4

// Of each polynomial of as many coefficients as are enough the shares are right, of one more coefficient they are not.
func TestWhichPublicSharesAreOfOnePolynomial(t *testing.T) {
	poly := coefficients(123456789, 8, []byte("seed"))
	for _, ids := range rightIds() {
		for many := 1; many <= len(ids); many++ {
			l := public(t, valuesAt(poly[:many], ids))
			for of := 1; of <= 7; of++ {
				want := api.OK
				if of > len(ids) {
					want = api.ErrFew
				} else if of < many {
					want = api.ErrPart
				}
				checked(t, "of a polynomial", want, of, l)
			}
		}
	}
}

// Polynomials whose last coefficients are 0 have as many all the same.
func TestCoefficientsMayBeZero(t *testing.T) {
	for _, ids := range rightIds() {
		for of := 1; of <= len(ids); of++ {
			checked(t, "all alike", api.OK, of, withIds(ids, 16))
			checked(t, "all 1", api.OK, of, withIds(ids, 1))
		}
	}
}

// At the place 0 a polynomial is not looked at: what is right there alone is not right.
func TestSharesThatMakeTheSecretAndAreNotRight(t *testing.T) {
	l := []api.Share{{Id: 1, X: 5}, {Id: 2, X: 5}, {Id: 3, X: 6}}
	joined(t, "3 less 3 and 1 times each", 6, l)
	checked(t, "three that are on no line", api.ErrPart, 2, public(t, l))
	checked(t, "three that are on a line", api.OK, 2, public(t, []api.Share{{Id: 1, X: 5}, {Id: 2, X: 7}, {Id: 3, X: 9}}))
	checked(t, "through 0", api.OK, 2, public(t, []api.Share{{Id: 1, X: r - 1}, {Id: 3, X: 1}, {Id: 2, X: 0}}))
}

func TestFewAreFew(t *testing.T) {
	for of := 1; of <= 7; of++ {
		checked(t, "none", api.ErrFew, of, nil)
		checked(t, "none", api.ErrFew, of, []api.Share{})
		l := public(t, split(t, 5, of, 7, []byte("seed")))
		for many := 1; many <= 7; many++ {
			want := api.OK
			if many < of {
				want = api.ErrFew
			}
			checked(t, "so many", want, of, l[:many])
			// As many as are enough are on some polynomial, whatever they are.
			if many <= of {
				for _, other := range spoiled(l[:many], 4) {
					checked(t, "one is another one", want, of, other)
				}
			}
		}
	}
}

func TestWhatIsNotLookedAt(t *testing.T) {
	good := public(t, split(t, 5, 3, 7, []byte("seed")))
	for _, of := range []int{math.MinInt, -1, 0, 8, 9, api.R + 1, math.MaxInt} {
		checked(t, "t", api.ErrArg, of, good)
		checked(t, "t, of none", api.ErrArg, of, nil)
		checked(t, "t, of one", api.ErrArg, of, good[:1])
	}
	for _, of := range []int{1, 2, 3, 7} {
		for _, ids := range wrongIds() {
			if len(ids) != 0 {
				checked(t, "Ids", api.ErrArg, of, withIds(ids, 4))
			}
		}
		for _, ids := range rightIds() {
			for _, x := range notOfTheGroup() {
				for _, l := range spoiled(withIds(ids, 4), x) {
					checked(t, "not of the group", api.ErrArg, of, l)
				}
			}
		}
	}
}

// What may not be is told ahead of that there are few, and ahead of what is not right.
func TestWhichErrorIsTold(t *testing.T) {
	checked(t, "few, and alike", api.ErrArg, 7, withIds([]int{1, 1}, 4))
	checked(t, "few, and not of the group", api.ErrArg, 7, withIds([]int{1, 2}, q-1))
	checked(t, "too many, and not right", api.ErrArg, 1, []api.Share{{Id: 1, X: 4}, {Id: 2, X: 16}, {Id: 3, X: 1}, {Id: 4, X: 1}, {Id: 5, X: 1}, {Id: 6, X: 1}, {Id: 7, X: 1}, {Id: 8, X: 1}})
	checked(t, "not right, and not of the group", api.ErrArg, 1, []api.Share{{Id: 1, X: 4}, {Id: 2, X: 16}, {Id: 3, X: q - 1}})
	checked(t, "not right, and an Id of 0", api.ErrArg, 1, []api.Share{{Id: 1, X: 4}, {Id: 2, X: 16}, {Id: 0, X: 4}})
	checked(t, "not right, and enough", api.ErrPart, 1, []api.Share{{Id: 1, X: 4}, {Id: 2, X: 16}})
	checked(t, "not right, and few", api.ErrFew, 3, []api.Share{{Id: 1, X: 4}, {Id: 2, X: 16}})
}

// P5.5

func TestAsManyAsAreEnoughMakeTheSecret(t *testing.T) {
	for _, secret := range secrets() {
		for of := 1; of <= 7; of++ {
			l := split(t, secret, of, 7, []byte("seed"))
			for many := of; many <= 7; many++ {
				for _, chosen := range some(l, many) {
					for _, order := range turned(chosen) {
						joined(t, "enough", secret, order)
					}
				}
			}
		}
	}
}

// To fewer, whatever they are, a share can be found that makes each number of them.
func TestFewerLeaveEachNumberOpen(t *testing.T) {
	for of := 2; of <= 7; of++ {
		for _, few := range some(split(t, 5, of, 7, []byte("seed")), of-1) {
			for _, secret := range secrets() {
				// What is behind the last Id of the seven is nobody's share yet.
				with := append(slices.Clone(few), api.Share{Id: 8})
				ids := []int{8}
				for _, s := range few {
					ids = append(ids, s.Id)
				}
				got, e := share.Join(with)
				weight, f := share.Weight(ids, 8)
				inverse, g := cyclic.InvR(weight)
				if e != api.OK || f != api.OK || g != api.OK {
					t.Fatal("of one more:", e, f, g)
				}
				with[of-1].X = cyclic.MulR(cyclic.SubR(secret, got), inverse)
				joined(t, "fewer, and one", secret, with)
			}
		}
	}
}

func TestFewerThanEnoughDoNotMakeTheSecret(t *testing.T) {
	for of := 2; of <= 7; of++ {
		l := split(t, 5, of, 7, []byte("seed"))
		for many := 1; many < of; many++ {
			for _, few := range some(l, many) {
				if n, e := share.Join(few); n == 5 || e != api.OK {
					t.Errorf("of %d, which are %d, Join(%v) is %d, %d", of, many, few, n, e)
				}
			}
		}
	}
}

func TestSharesOfTwoSecretsTogetherAreThoseOfTheirSum(t *testing.T) {
	for _, a := range secrets() {
		for _, b := range secrets() {
			for of := 1; of <= 7; of++ {
				one, two := split(t, a, of, 7, []byte("one")), split(t, b, of, 7, []byte("two"))
				both := slices.Clone(one)
				for k := range both {
					both[k].X = cyclic.AddR(one[k].X, two[k].X)
				}
				for _, chosen := range some(both, of) {
					joined(t, "both", cyclic.AddR(a, b), chosen)
				}
				checked(t, "both", api.OK, of, public(t, both))
			}
		}
	}
}

func TestAShareThatIsAnotherOneIsFoundOut(t *testing.T) {
	for of := 1; of <= 6; of++ {
		l := split(t, 123456789, of, 7, []byte("seed"))
		for many := of + 1; many <= 7; many++ {
			for _, chosen := range some(l, many) {
				for k := range chosen {
					for _, more := range []uint64{1, 2, r - 1, r / 2} {
						other := slices.Clone(chosen)
						other[k].X = cyclic.AddR(other[k].X, more)
						checked(t, "another one", api.ErrPart, of, public(t, other))
					}
				}
				checked(t, "all as they were", api.OK, of, public(t, chosen))
			}
		}
	}
}

// R2, R6

func TestNothingIsChangedAndNothingIsKept(t *testing.T) {
	seed, kept := text(40), text(40)
	l := split(t, 5, 3, 7, seed)
	first := slices.Clone(l)
	p := public(t, l)
	firstPublic := slices.Clone(p)
	ids := []int{3, 1, 7}
	weight, _ := share.Weight(ids, 7)
	joined(t, "all", 5, l)
	checked(t, "all", api.OK, 3, p)
	if !slices.Equal(seed, kept) || !slices.Equal(l, first) || !slices.Equal(p, firstPublic) || !slices.Equal(ids, []int{3, 1, 7}) {
		t.Error("what was handed in was changed:", seed, l, p, ids)
	}
	clear(seed)
	clear(l)
	if !slices.Equal(p, firstPublic) {
		t.Error("what was answered was changed:", p)
	}
	p[0].X = 0
	if again := split(t, 5, 3, 7, kept); !slices.Equal(again, first) || !slices.Equal(public(t, again), firstPublic) {
		t.Error("another answer to the same question")
	}
	if n, _ := share.Weight(ids, 7); n != weight {
		t.Error("another weight:", n)
	}
}
