// Package field is layer 1: see shared/doc/01-field.md.
package field

import (
	"iter"
	"math/bits"

	"greatseal/api"
)

const (
	// 2^61 is 1 modulo P: what stands above these bits counts as it is.
	bitsOfP = 61
	// Seven bytes are the most that are below P, whatever they are.
	bytesPerElement = 7
)

// Add, Sub, Mul and Pow are the field's sums, differences, products and powers, Inv what a number is divided by; Of makes elements of bytes, Eval tells a polynomial's value.
func Add(a, b uint64) uint64 {
	return reduce(reduce(a) + reduce(b))
}

func Sub(a, b uint64) uint64 {
	// P more keeps the difference of two elements above 0.
	return reduce(reduce(a) + api.P - reduce(b))
}

func Mul(a, b uint64) uint64 {
	// The product of two elements is below 2^122, so both its halves are below 2^61.
	high, low := bits.Mul64(reduce(a), reduce(b))
	upper := high<<(64-bitsOfP) | low>>bitsOfP
	return reduce(upper + low&api.P)
}

func Pow(a, n uint64) uint64 {
	power := uint64(1)
	for ; n > 0; n >>= 1 {
		if n&1 == 1 {
			power = Mul(power, a)
		}
		a = Mul(a, a)
	}
	return power
}

func Inv(a uint64) (uint64, api.Errno) {
	if reduce(a) == 0 {
		return 0, api.ErrZero
	}
	// P is a prime, so the power P - 1 of what is not 0 is 1.
	return Pow(a, api.P-2), api.OK
}

func Of(b []byte) []uint64 {
	l := make([]uint64, 0, (len(b)+bytesPerElement-1)/bytesPerElement)
	for element := range elements(b) {
		l = append(l, element)
	}
	return l
}

func Eval(poly []uint64, x uint64) uint64 {
	value := uint64(0)
	for k := len(poly) - 1; k >= 0; k-- {
		value = Add(Mul(value, x), poly[k])
	}
	return value
}

// reduce takes P off once alone: the bits above the lowest 61 are 7 at most, so what is left is below 2 P.
func reduce(a uint64) uint64 {
	a = a&api.P + a>>bitsOfP
	if a >= api.P {
		a -= api.P
	}
	return a
}

func elements(b []byte) iter.Seq[uint64] {
	return func(yield func(uint64) bool) {
		for at := 0; at < len(b); at += bytesPerElement {
			end := min(at+bytesPerElement, len(b))
			if !yield(number(b[at:end])) {
				return
			}
		}
	}
}

func number(b []byte) uint64 {
	n := uint64(0)
	for k, x := range b {
		n |= uint64(x) << (8 * k)
	}
	return n
}
