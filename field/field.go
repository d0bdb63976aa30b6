// Package field is layer 1: fields with a prime number of elements. See doc/01-field.md.
package field

import "reportescrow/api"

// wheel has the numbers from 2 to 31 that 2, 3 and 5 do not divide. Each greater one is one of these plus a multiple of 30, so that the search for a divisor may pass over all others.
var wheel = [8]int{7, 11, 13, 17, 19, 23, 29, 31}

// Valid reports whether p is a permitted prime.
func Valid(p int) bool {
	if p == api.Prime { // asked about so often that a search each time would cost too much
		return true
	}
	if p < 2 || p > api.MaxPrime {
		return false
	}
	for _, d := range [3]int{2, 3, 5} {
		if p%d == 0 {
			return p == d
		}
	}
	for turn := 0; turn*turn <= p; turn += 30 {
		for _, spoke := range wheel {
			d := turn + spoke
			if p%d == 0 {
				return p == d
			}
		}
	}
	return true
}

// Element returns the element that n is modulo p. For a p below 1 it returns 0, so that no function here divides by zero.
func Element(p, n int) int {
	if p < 1 {
		return 0
	}
	rest := n % p
	if rest < 0 { // % takes the sign of n
		rest += p
	}
	return rest
}

func Add(p, a, b int) int { return Element(p, a+b) }

func Sub(p, a, b int) int { return Element(p, a-b) }

// Mul may multiply first: elements are less than 2^30, and so their product fits.
func Mul(p, a, b int) int { return Element(p, a*b) }

// Pow returns the power of a, for a negative n that of the inverse of a.
func Pow(p, a, n int) int {
	if n >= 0 {
		return power(p, a, uint(n))
	}
	inverse, _ := Inverse(p, a) // 0 for 0, as its power is to be
	return power(p, inverse, -uint(n))
}

// power has an unsigned exponent because -n is no int for the least int n.
func power(p, a int, n uint) int {
	product := Element(p, 1)
	for ; n > 0; n >>= 1 {
		if n&1 == 1 {
			product = Mul(p, product, a)
		}
		a = Mul(p, a, a)
	}
	return product
}

// Inverse returns the power of p-2, with which a has the product 1 because the power of p-1 is 1.
func Inverse(p, a int) (int, api.Errno) {
	if Element(p, a) == 0 {
		return 0, api.ErrZero
	}
	return power(p, a, uint(p-2)), api.OK
}

// Elements reports whether p is permitted and all numbers of the list are elements.
func Elements(p int, l []int) bool {
	for _, n := range l {
		if n < 0 || n >= p {
			return false
		}
	}
	return Valid(p) // last, as its search takes longer than most lists
}

// Linear returns a plus c times b, place by place.
func Linear(p int, a, b []int, c int) []int {
	sums := make([]int, max(len(a), len(b)))
	for i := range len(sums) {
		sums[i] = Add(p, at(a, i), Mul(p, c, at(b, i)))
	}
	return sums
}

// at lets the shorter list of Linear go on with 0.
func at(l []int, i int) int {
	if i < len(l) {
		return l[i]
	}
	return 0
}
