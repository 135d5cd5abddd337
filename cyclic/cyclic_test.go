package cyclic_test

import (
	"math"
	"math/big"
	"testing"

	"greatseal/api"
	"greatseal/cyclic"
)

const (
	q = uint64(api.Q)
	r = uint64(api.R)
)

// edges are the numbers at which a reduction modulo Q, or modulo R, may go wrong: about 0, about each multiple of both, about powers of two, and the greatest.
func edges() []uint64 {
	l := []uint64{0, 1, 2, 3, 4, 5, 16, 1<<32 - 1, 1 << 32, 1 << 60, 1 << 61, 1 << 62, 1 << 63, math.MaxUint64 - 1, math.MaxUint64}
	for k := uint64(1); k <= 8; k++ {
		l = append(l, k*q-1, k*q, k*q+1)
	}
	for k := uint64(1); k <= 15; k += 2 {
		l = append(l, k*r-1, k*r, k*r+1)
	}
	return l
}

// sample is edges, and numbers that are strewn over all 64 bits, the same ones in each run.
func sample() []uint64 {
	l := edges()
	x := uint64(88172645463325252)
	for range 40 {
		x ^= x << 13
		x ^= x >> 7
		x ^= x << 17
		l = append(l, x)
	}
	return l
}

func number(n uint64) *big.Int { return new(big.Int).SetUint64(n) }

// rest is what whole numbers of any size say, which go round nowhere.
func rest(n *big.Int, modulus uint64) uint64 {
	return new(big.Int).Mod(n, number(modulus)).Uint64()
}

// square is the square of what k less 1 is modulo Q - 1, and 1: never that of 0.
func square(k uint64) uint64 {
	root := number(k%(q-1) + 1)
	return rest(root.Mul(root, root), q)
}

// P3.1

func TestWhoIsOfTheGroup(t *testing.T) {
	for _, x := range []struct {
		n  uint64
		in bool
	}{
		{0, false}, {1, true}, {4, true}, {16, true},
		{q - 1, false}, {q - 4, false}, {q - 16, false},
		{q, false}, {q + 1, false}, {q + 4, false}, {2 * q, false}, {2*q + 4, false}, {8*q + 4, false},
		{math.MaxUint64, false},
	} {
		if in := cyclic.In(x.n); in != x.in {
			t.Errorf("In(%d) is %t", x.n, in)
		}
	}
}

func TestTheGroupIsTheSquares(t *testing.T) {
	for _, x := range sample() {
		want := x < q && big.Jacobi(number(x), number(q)) == 1
		if in := cyclic.In(x); in != want {
			t.Errorf("In(%d) is %t", x, in)
		}
		if s := square(x); !cyclic.In(s) || cyclic.In(q-s) || cyclic.In(q+s) {
			t.Errorf("the square %d, what is missing from it to Q, or Q more", s)
		}
	}
}

// P3.2

func TestProductsOfTheChapter(t *testing.T) {
	if n := cyclic.Mul(q-1, q-1); n != 1 {
		t.Error("Q - 1 times Q - 1:", n)
	}
	if n := cyclic.Pow(2, 10); n != 1024 {
		t.Error("2 to the power 10:", n)
	}
	if n := cyclic.Pow(0, 0); n != 1 {
		t.Error("0 to the power 0:", n)
	}
}

func TestProductsAreThoseOfWholeNumbers(t *testing.T) {
	l := sample()
	for _, a := range l {
		for _, b := range l {
			if n, want := cyclic.Mul(a, b), rest(new(big.Int).Mul(number(a), number(b)), q); n != want {
				t.Errorf("Mul(%d, %d) is %d, not %d", a, b, n, want)
			}
		}
	}
}

func TestProductsWithTheModulusAreZero(t *testing.T) {
	for _, a := range sample() {
		for k := uint64(0); k <= 8; k++ {
			if cyclic.Mul(a, k*q) != 0 || cyclic.Mul(k*q, a) != 0 {
				t.Errorf("%d times %d Q is not 0", a, k)
			}
		}
	}
}

func TestPowersAreThoseOfWholeNumbers(t *testing.T) {
	l := sample()
	for _, a := range l {
		for _, n := range l {
			if got, want := cyclic.Pow(a, n), new(big.Int).Exp(number(a), number(n), number(q)).Uint64(); got != want {
				t.Errorf("Pow(%d, %d) is %d, not %d", a, n, got, want)
			}
		}
	}
}

func TestPowersWithZero(t *testing.T) {
	for _, a := range sample() {
		if n := cyclic.Pow(a, 0); n != 1 {
			t.Errorf("Pow(%d, 0) is %d", a, n)
		}
		if n := cyclic.Pow(a, 1); n != a%q {
			t.Errorf("Pow(%d, 1) is %d", a, n)
		}
	}
	for _, zero := range []uint64{0, q, 2 * q, 8 * q} {
		for _, n := range []uint64{1, 2, r - 1, r, r + 1, q - 1, q, math.MaxUint64} {
			if x := cyclic.Pow(zero, n); x != 0 {
				t.Errorf("Pow(%d, %d) is %d", zero, n, x)
			}
		}
	}
}

// Of numbers that are no squares an exponent taken modulo R makes others; of 0 one taken modulo Q - 1 makes 1.
func TestExponentsAreTakenModuloNothing(t *testing.T) {
	for _, x := range []struct{ a, n, want uint64 }{
		{q - 1, r, q - 1}, {2, r, q - 1}, {q - 1, r + 1, 1}, {q - 1, r - 1, 1},
		{0, r, 0}, {0, q - 1, 0}, {3, q, 3}, {3, q - 1, 1},
		{4, r - 1, (q + 1) / 4}, {4, r, 1}, {4, r + 1, 4},
	} {
		if n := cyclic.Pow(x.a, x.n); n != x.want {
			t.Errorf("Pow(%d, %d) is %d, not %d", x.a, x.n, n, x.want)
		}
	}
}

// P3.3

func TestInversesOfTheChapter(t *testing.T) {
	n, e := cyclic.Inv(4)
	if e != api.OK || cyclic.Mul(n, 4) != 1 {
		t.Error("the inverse of 4:", n, e)
	}
	if n := cyclic.Base(3); n != 64 {
		t.Error("the generator to the power 3:", n)
	}
	if n := cyclic.Base(r); n != 1 {
		t.Error("the generator to the power R:", n)
	}
}

// inverses holds a call against the inverses of whole numbers, by a modulus.
func inverses(t *testing.T, inv func(uint64) (uint64, api.Errno), modulus uint64) {
	t.Helper()
	for _, a := range sample() {
		n, e := inv(a)
		if a%modulus == 0 {
			if n != 0 || e != api.ErrZero {
				t.Errorf("the inverse of %d is %d, %d", a, n, e)
			}
			continue
		}
		if want := new(big.Int).ModInverse(number(a), number(modulus)).Uint64(); n != want || e != api.OK {
			t.Errorf("the inverse of %d is %d, %d, not %d", a, n, e, want)
		}
	}
}

func TestInverses(t *testing.T) { inverses(t, cyclic.Inv, q) }

func TestNothingIsDividedByZero(t *testing.T) {
	for k := uint64(0); k <= 8; k++ {
		if n, e := cyclic.Inv(k * q); n != 0 || e != api.ErrZero {
			t.Errorf("the inverse of %d Q: %d, %d", k, n, e)
		}
	}
	for k := uint64(0); k <= 15; k++ {
		if n, e := cyclic.InvR(k * r); n != 0 || e != api.ErrZero {
			t.Errorf("the inverse of %d R: %d, %d", k, n, e)
		}
	}
	// R is not 0 modulo Q, nor Q modulo R.
	if n, e := cyclic.Inv(r); e != api.OK || cyclic.Mul(n, r) != 1 {
		t.Error("the inverse of R modulo Q:", n, e)
	}
	if n, e := cyclic.InvR(q); n != 1 || e != api.OK {
		t.Error("the inverse of Q modulo R:", n, e)
	}
}

func TestPowersOfTheGenerator(t *testing.T) {
	for _, n := range sample() {
		if got, want := cyclic.Base(n), new(big.Int).Exp(big.NewInt(4), number(n), number(q)).Uint64(); got != want {
			t.Errorf("Base(%d) is %d, not %d", n, got, want)
		}
	}
}

// P3.4

func TestSumsOfTheChapter(t *testing.T) {
	if n := cyclic.AddR(r-1, 2); n != 1 {
		t.Error("R - 1 and 2:", n)
	}
	if n := cyclic.SubR(1, 2); n != r-1 {
		t.Error("1 less 2:", n)
	}
	if n := cyclic.MulR(r-1, 2); n != r-2 {
		t.Error("R - 1 times 2:", n)
	}
	if n, e := cyclic.InvR(2); n != 576460752303422895 || e != api.OK {
		t.Error("the inverse of 2:", n, e)
	}
}

func TestSumsAreThoseOfWholeNumbers(t *testing.T) {
	l := sample()
	for _, a := range l {
		for _, b := range l {
			x, y := number(a), number(b)
			if n, want := cyclic.AddR(a, b), rest(new(big.Int).Add(x, y), r); n != want {
				t.Errorf("AddR(%d, %d) is %d, not %d", a, b, n, want)
			}
			if n, want := cyclic.SubR(a, b), rest(new(big.Int).Sub(x, y), r); n != want {
				t.Errorf("SubR(%d, %d) is %d, not %d", a, b, n, want)
			}
			if n, want := cyclic.MulR(a, b), rest(new(big.Int).Mul(x, y), r); n != want {
				t.Errorf("MulR(%d, %d) is %d, not %d", a, b, n, want)
			}
		}
	}
}

func TestInversesOfExponents(t *testing.T) { inverses(t, cyclic.InvR, r) }

// P3.5

func TestTheSquaresAreAGroup(t *testing.T) {
	l := edges()
	for _, i := range l {
		a := square(i)
		if cyclic.Mul(a, 1) != a || cyclic.Mul(1, a) != a {
			t.Errorf("1 does something else to %d", a)
		}
		if n, e := cyclic.Inv(a); e != api.OK || !cyclic.In(n) || cyclic.Mul(a, n) != 1 {
			t.Errorf("the inverse of %d is %d, %d", a, n, e)
		}
		for _, j := range l {
			b := square(j)
			ab := cyclic.Mul(a, b)
			if !cyclic.In(ab) || ab != cyclic.Mul(b, a) {
				t.Errorf("%d times %d is %d", a, b, ab)
			}
			for _, k := range l {
				c := square(k)
				if cyclic.Mul(ab, c) != cyclic.Mul(a, cyclic.Mul(b, c)) {
					t.Errorf("products of %d, %d, %d", a, b, c)
				}
			}
		}
	}
}

func TestExponentsOfSquaresCountModuloR(t *testing.T) {
	for _, i := range edges() {
		a := square(i)
		for _, n := range sample() {
			if !cyclic.In(cyclic.Pow(a, n)) || cyclic.Pow(a, n) != cyclic.Pow(a, n%r) {
				t.Errorf("%d to the power %d", a, n)
			}
		}
		for _, m := range edges() {
			for _, n := range []uint64{0, 1, 2, r - 1, r, math.MaxUint64} {
				if cyclic.Mul(cyclic.Pow(a, m), cyclic.Pow(a, n)) != cyclic.Pow(a, cyclic.AddR(m, n)) {
					t.Errorf("%d to the powers %d and %d, together", a, m, n)
				}
				if cyclic.Pow(cyclic.Pow(a, m), n) != cyclic.Pow(a, cyclic.MulR(m, n)) {
					t.Errorf("%d to the power %d, and that to the power %d", a, m, n)
				}
			}
		}
	}
}

func TestOfANumberAndWhatIsMissingJustOneIsASquare(t *testing.T) {
	for _, x := range sample() {
		if x %= q; x != 0 && cyclic.In(x) == cyclic.In(q-x) {
			t.Errorf("of %d, and what is missing from it, both, or none", x)
		}
	}
}
