// Package field is layer 1: see shared/doc/01-field.md.
package field

import (
	"math/bits"

	"rillmeter/api"
)

// Of: a number modulo the prime.
func Of(a uint64) uint64 { return a % api.P }

// Signed: of a number that may be below nought.
func Signed(n int) uint64 {
	if n >= 0 {
		return Of(uint64(n))
	}
	// Negated as an unsigned number, the least int has its true size too.
	return Sub(0, -uint64(n))
}

// Add: the sum.
func Add(a uint64, b uint64) uint64 { return Of(Of(a) + Of(b)) }

// Sub: the difference.
func Sub(a uint64, b uint64) uint64 { return Of(Of(a) + api.P - Of(b)) }

// Mul: the product: its two halves meet at the bit 61.
func Mul(a uint64, b uint64) uint64 {
	high, low := bits.Mul64(Of(a), Of(b))
	// 2^61 is 1 modulo P, so what stands from the bit 61 on counts as it would from the bit 0 on.
	return Of((high<<3 | low>>61) + low&api.P)
}

// Pow: a number times itself.
func Pow(a uint64, n uint64) uint64 {
	product := uint64(1)
	for square := Of(a); n > 0; n >>= 1 {
		if n&1 == 1 {
			product = Mul(product, square)
		}
		square = Mul(square, square)
	}
	return product
}

// Inv: the number whose product with one is 1.
func Inv(a uint64) (uint64, bool) {
	if Of(a) == 0 {
		return 0, false
	}
	// By Fermat's little theorem a to the power of P - 1 is 1.
	return Pow(a, api.P-2), true
}
