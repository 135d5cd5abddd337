package field_test

import (
	"math"
	"math/big"
	"slices"
	"testing"

	"greatseal/api"
	"greatseal/field"
)

const p = uint64(api.P)

// edges are the numbers at which a sum, a product or a reduction modulo P may go wrong: about 0, about each multiple of P, about powers of two, and the greatest.
func edges() []uint64 {
	l := []uint64{0, 1, 2, 3, 7, 8, 1<<60 - 1, 1 << 60, 1<<60 + 1, 1 << 61, 1<<61 + 1, 1<<62 - 1, 1 << 62, 1 << 63, math.MaxUint64 - 1, math.MaxUint64}
	for k := uint64(1); k <= 8; k++ {
		l = append(l, k*p-1, k*p, k*p+1)
	}
	return l
}

// sample is edges, and numbers that are strewn over all 64 bits, the same ones in each run.
func sample() []uint64 {
	l := edges()
	x := uint64(88172645463325252)
	for range 60 {
		x ^= x << 13
		x ^= x >> 7
		x ^= x << 17
		l = append(l, x)
	}
	return l
}

func number(n uint64) *big.Int { return new(big.Int).SetUint64(n) }

// modP is what whole numbers of any size say, which go round nowhere.
func modP(n *big.Int) uint64 { return new(big.Int).Mod(n, number(p)).Uint64() }

// P1.1

func TestSumsOfTheChapter(t *testing.T) {
	if n := field.Add(p-1, 2); n != 1 {
		t.Error("P - 1 and 2:", n)
	}
	if n := field.Sub(0, 1); n != p-1 {
		t.Error("0 less 1:", n)
	}
	if n := field.Mul(1<<60, 2); n != 1 {
		t.Error("2^60 times 2:", n)
	}
	if n := field.Add(p, 0); n != 0 {
		t.Error("2^61 - 1:", n)
	}
	if n := field.Add(1<<61, 0); n != 1 {
		t.Error("2^61:", n)
	}
}

func TestSumsAreThoseOfWholeNumbers(t *testing.T) {
	l := sample()
	for _, a := range l {
		for _, b := range l {
			x, y := number(a), number(b)
			if n, want := field.Add(a, b), modP(new(big.Int).Add(x, y)); n != want {
				t.Errorf("Add(%d, %d) is %d, not %d", a, b, n, want)
			}
			if n, want := field.Sub(a, b), modP(new(big.Int).Sub(x, y)); n != want {
				t.Errorf("Sub(%d, %d) is %d, not %d", a, b, n, want)
			}
			if n, want := field.Mul(a, b), modP(new(big.Int).Mul(x, y)); n != want {
				t.Errorf("Mul(%d, %d) is %d, not %d", a, b, n, want)
			}
		}
	}
}

// P1.2

func TestPowersAreThoseOfWholeNumbers(t *testing.T) {
	l := sample()
	for _, a := range l {
		for _, n := range l {
			if got, want := field.Pow(a, n), new(big.Int).Exp(number(a), number(n), number(p)).Uint64(); got != want {
				t.Errorf("Pow(%d, %d) is %d, not %d", a, n, got, want)
			}
		}
	}
}

func TestPowersWithZero(t *testing.T) {
	for _, a := range sample() {
		if n := field.Pow(a, 0); n != 1 {
			t.Errorf("Pow(%d, 0) is %d", a, n)
		}
	}
	for _, zero := range []uint64{0, p, 2 * p, 8 * p} {
		for _, n := range []uint64{1, 2, p - 1, p, math.MaxUint64} {
			if x := field.Pow(zero, n); x != 0 {
				t.Errorf("Pow(%d, %d) is %d", zero, n, x)
			}
		}
	}
}

func TestExponentsAreTakenModuloNothing(t *testing.T) {
	if n := field.Pow(3, p); n != 3 {
		t.Error("3 to the power P:", n)
	}
	if n := field.Pow(3, p-1); n != 1 {
		t.Error("3 to the power P - 1:", n)
	}
	if n := field.Pow(0, p-1); n != 0 {
		t.Error("0 to the power P - 1:", n)
	}
}

func TestInverses(t *testing.T) {
	if n, e := field.Inv(2); n != 1<<60 || e != api.OK {
		t.Error("the inverse of 2:", n, e)
	}
	for _, a := range sample() {
		n, e := field.Inv(a)
		if a%p == 0 {
			if n != 0 || e != api.ErrZero {
				t.Errorf("Inv(%d) is %d, %d", a, n, e)
			}
			continue
		}
		if want := new(big.Int).ModInverse(number(a), number(p)).Uint64(); n != want || e != api.OK {
			t.Errorf("Inv(%d) is %d, %d, not %d", a, n, e, want)
		}
	}
}

// P1.3

func TestElementsOfBytes(t *testing.T) {
	full := []byte{255, 255, 255, 255, 255, 255, 255}
	for _, x := range []struct {
		b    []byte
		want []uint64
	}{
		{nil, nil},
		{[]byte{}, nil},
		{[]byte{0}, []uint64{0}},
		{[]byte{255}, []uint64{255}},
		{[]byte{1, 2, 3, 4, 5, 6}, []uint64{0x060504030201}},
		{[]byte{1, 2, 3, 4, 5, 6, 7}, []uint64{0x07060504030201}},
		{[]byte{1, 0, 0, 0, 0, 0, 0, 2}, []uint64{1, 2}},
		{full, []uint64{1<<56 - 1}},
		{slices.Concat(full, full), []uint64{1<<56 - 1, 1<<56 - 1}},
		{slices.Concat(full, full, []byte{9, 1}), []uint64{1<<56 - 1, 1<<56 - 1, 265}},
	} {
		if l := field.Of(x.b); !slices.Equal(l, x.want) {
			t.Errorf("Of(%v) is %v, not %v", x.b, l, x.want)
		}
	}
}

func TestElementsOfBytesOfAnyLength(t *testing.T) {
	for length := range 100 {
		b := make([]byte, length)
		for k := range b {
			b[k] = byte(k*37 + length)
		}
		var want []uint64
		for seven := range slices.Chunk(b, 7) {
			slices.Reverse(seven)
			want = append(want, new(big.Int).SetBytes(seven).Uint64())
			slices.Reverse(seven)
		}
		if l := field.Of(b); !slices.Equal(l, want) {
			t.Errorf("Of(%v) is %v, not %v", b, l, want)
		}
	}
}

func TestElementsAreTheCallersAlone(t *testing.T) {
	b := []byte{1, 2, 3, 4, 5, 6, 7, 8}
	first := field.Of(b)
	kept := slices.Clone(first)
	second := field.Of(b)
	second[0], b[0] = 99, 99
	if !slices.Equal(first, kept) {
		t.Error("changed behind the call:", first)
	}
	if !slices.Equal(b[1:], []byte{2, 3, 4, 5, 6, 7, 8}) {
		t.Error("the bytes were changed:", b)
	}
}

func TestPolynomials(t *testing.T) {
	for _, x := range []struct {
		poly    []uint64
		x, want uint64
	}{
		{nil, 0, 0},
		{nil, 5, 0},
		{[]uint64{}, p, 0},
		{[]uint64{7}, 0, 7},
		{[]uint64{7}, math.MaxUint64, 7},
		{[]uint64{p}, 5, 0},
		{[]uint64{math.MaxUint64}, 5, 7},
		{[]uint64{1, 2, 3}, 10, 321},
		{[]uint64{1, 2, 3}, 0, 1},
		{[]uint64{1, 2, 3}, p, 1},
		{[]uint64{1, 2, 3}, p + 10, 321},
		{[]uint64{0, 0, 0, 1}, 3, 27},
		{[]uint64{p - 1, 1}, 1, 0},
	} {
		if n := field.Eval(x.poly, x.x); n != x.want {
			t.Errorf("Eval(%v, %d) is %d, not %d", x.poly, x.x, n, x.want)
		}
	}
}

func TestPolynomialsAreThoseOfWholeNumbers(t *testing.T) {
	poly := sample()
	kept := slices.Clone(poly)
	for _, x := range sample() {
		sum := new(big.Int)
		power := big.NewInt(1)
		for _, c := range poly {
			sum.Add(sum, new(big.Int).Mul(number(c), power))
			power.Mul(power, number(x))
		}
		if n, want := field.Eval(poly, x), modP(sum); n != want {
			t.Errorf("at %d: %d, not %d", x, n, want)
		}
	}
	if !slices.Equal(poly, kept) {
		t.Error("the polynomial was changed")
	}
}

// P1.4

func TestTheseAreAField(t *testing.T) {
	l := edges()
	for _, a := range l {
		for _, b := range l {
			if field.Add(a, b) != field.Add(b, a) || field.Mul(a, b) != field.Mul(b, a) {
				t.Errorf("the order of %d and %d makes a difference", a, b)
			}
			if field.Add(field.Sub(a, b), b) != a%p {
				t.Errorf("%d less %d, and that again, is another one", a, b)
			}
			for _, c := range l {
				if field.Add(field.Add(a, b), c) != field.Add(a, field.Add(b, c)) {
					t.Errorf("sums of %d, %d, %d", a, b, c)
				}
				if field.Mul(field.Mul(a, b), c) != field.Mul(a, field.Mul(b, c)) {
					t.Errorf("products of %d, %d, %d", a, b, c)
				}
				if field.Mul(a, field.Add(b, c)) != field.Add(field.Mul(a, b), field.Mul(a, c)) {
					t.Errorf("a product of a sum of %d, %d, %d", a, b, c)
				}
			}
		}
	}
}

func TestNeutralsAndInverses(t *testing.T) {
	for _, a := range sample() {
		if field.Add(a, 0) != a%p || field.Mul(a, 1) != a%p || field.Mul(a, 0) != 0 {
			t.Errorf("0 or 1 do something else to %d", a)
		}
		if field.Add(a, field.Sub(0, a)) != 0 {
			t.Errorf("%d and what is against it are not 0", a)
		}
		if n, e := field.Inv(a); a%p != 0 && (e != api.OK || field.Mul(a, n) != 1) {
			t.Errorf("%d times its inverse is not 1", a)
		}
	}
}
