package field

import (
	"math"
	"math/big"
	"slices"
	"testing"

	"reportescrow/api"
)

// primes are small ones for all pairs of elements, the field of 2 among them; great those for which products come near 2^60.
var (
	primes = []int{2, 3, 5, 7, 11, 31}
	great  = []int{65537, api.Prime, 1073741783, 1073741789}
)

// sieve tells which numbers below a limit are not prime.
func sieve(limit int) []bool {
	composite := make([]bool, limit)
	for i := range min(2, limit) {
		composite[i] = true
	}
	for i := 2; i*i < limit; i++ {
		for k := i * i; k < limit && !composite[i]; k += i {
			composite[k] = true
		}
	}
	return composite
}

// samples are elements of the field of p: both ends, the middle, and some between.
func samples(p int) []int {
	l := []int{0, 1, 2, p / 2, p/2 + 1, p - 2, p - 1}
	for i := range 20 {
		l = append(l, int(uint64(i+1)*0x9E3779B97F4A7C15>>3%uint64(p)))
	}
	for i := range l {
		l[i] %= p
	}
	return l
}

// exact is x modulo p, by numbers of any length.
func exact(p int, x *big.Int) int {
	return int(new(big.Int).Mod(x, big.NewInt(int64(p))).Int64())
}

// exactPower is a to the power of n modulo p, for a negative n by the inverse.
func exactPower(p, a, n int) int {
	if a == 0 && n != 0 {
		return 0
	}
	return int(new(big.Int).Exp(big.NewInt(int64(a)), big.NewInt(int64(n)), big.NewInt(int64(p))).Int64())
}

// P1.1: Valid

func TestValidAgreesWithSieve(t *testing.T) {
	for n, composite := range sieve(1 << 17) {
		if Valid(n) == composite {
			t.Error("Valid", n)
		}
	}
}

func TestValidAboutMaxPrime(t *testing.T) {
	small := sieve(1 << 16)
	for n := api.MaxPrime - 1000; n <= api.MaxPrime+1000; n++ {
		want := n <= api.MaxPrime
		for d := 2; d*d <= n && want; d++ {
			want = small[d] || n%d != 0
		}
		if Valid(n) != want {
			t.Error("Valid", n)
		}
	}
	if !Valid(1073741789) || Valid(1073741827) || Valid(api.MaxPrime) {
		t.Error("the last permitted prime, the first that is not, MaxPrime")
	}
}

func TestValidUsualPrime(t *testing.T) {
	for d := 2; d*d <= api.Prime; d++ {
		if api.Prime%d == 0 {
			t.Fatal("Prime is not prime", d)
		}
	}
	for n := api.Prime - 2; n <= api.Prime+2; n++ {
		if Valid(n) != (n == api.Prime) {
			t.Error("Valid", n)
		}
	}
}

// The product of a prime with itself or the next one has no divisor that is found earlier.
func TestValidProductsOfTwoPrimes(t *testing.T) {
	before := 2
	for q, composite := range sieve(1 << 15) {
		if composite {
			continue
		}
		if Valid(q*q) || Valid(before*q) {
			t.Error("Valid", before, q)
		}
		before = q
	}
}

func TestValidRefusesOtherNumbers(t *testing.T) {
	for _, n := range []int{math.MinInt, -api.Prime, -7, -2, -1, 0, 1, 561, 2047, 1373653, 25326001, 1<<31 - 1, 1<<61 - 1, math.MaxInt} {
		if Valid(n) {
			t.Error("Valid", n)
		}
	}
}

// P1.1: Element, Elements

func TestElement(t *testing.T) {
	for _, x := range []struct{ p, n, want int }{
		{7, 0, 0}, {7, 6, 6}, {7, 7, 0}, {7, 8, 1}, {7, -1, 6}, {7, -7, 0}, {7, -8, 6},
		{2, 0, 0}, {2, 1, 1}, {2, -1, 1}, {2, -2, 0}, {2, math.MinInt, 0}, {2, math.MaxInt, 1},
		{3, math.MinInt, 1}, {3, math.MaxInt, 1}, {api.Prime, -api.Prime, 0}, {api.Prime, -1, api.Prime - 1},
	} {
		if got := Element(x.p, x.n); got != x.want {
			t.Error("Element", x.p, x.n, got)
		}
	}
	for _, p := range slices.Concat(primes, great) {
		for _, n := range []int{math.MinInt, math.MinInt + 1, -p - 1, -p, -p + 1, -1, 0, 1, p - 1, p, p + 1, math.MaxInt} {
			if got := Element(p, n); got != exact(p, big.NewInt(int64(n))) {
				t.Error("Element", p, n, got)
			}
		}
	}
}

func TestElements(t *testing.T) {
	for i, x := range []struct {
		p    int
		l    []int
		want bool
	}{
		{7, nil, true}, {7, []int{}, true}, {7, []int{0, 6, 3, 3}, true},
		{7, []int{7}, false}, {7, []int{-1}, false}, {7, []int{0, 1, 7}, false}, {7, []int{-1, 1, 2}, false}, {7, []int{1, math.MinInt, 2}, false}, {7, []int{math.MaxInt, 1}, false},
		{2, []int{0, 1}, true}, {2, []int{2}, false},
		{api.Prime, []int{api.Prime - 1}, true}, {api.Prime, []int{api.Prime}, false},
		{1073741789, []int{1073741788}, true}, {1073741789, []int{1073741789}, false},
		{8, nil, false}, {8, []int{1}, false}, {1, nil, false}, {1, []int{0}, false}, {0, nil, false}, {-7, nil, false}, {-7, []int{0}, false},
		{1073741827, nil, false}, {1073741827, []int{1}, false}, {math.MinInt, nil, false}, {math.MaxInt, []int{0}, false},
	} {
		if Elements(x.p, x.l) != x.want {
			t.Error("Elements", i, x.p, x.l)
		}
	}
}

// P1.2

func checkSums(t *testing.T, p, a, b int) {
	x, y := big.NewInt(int64(a)), big.NewInt(int64(b))
	if got := Add(p, a, b); got != exact(p, new(big.Int).Add(x, y)) {
		t.Error("Add", p, a, b, got)
	}
	if got := Sub(p, a, b); got != exact(p, new(big.Int).Sub(x, y)) {
		t.Error("Sub", p, a, b, got)
	}
	if got := Mul(p, a, b); got != exact(p, new(big.Int).Mul(x, y)) {
		t.Error("Mul", p, a, b, got)
	}
}

func TestSums(t *testing.T) {
	for _, p := range primes {
		for a := range p {
			for b := range p {
				checkSums(t, p, a, b)
			}
		}
	}
	for _, p := range great {
		for _, a := range samples(p) {
			for _, b := range samples(p) {
				checkSums(t, p, a, b)
			}
		}
	}
	if Mul(7, 3, 5) != 1 {
		t.Error("the example of the chapter")
	}
}

func TestFieldOfTwo(t *testing.T) {
	if Add(2, 1, 1) != 0 || Sub(2, 0, 1) != 1 || Mul(2, 1, 1) != 1 || Pow(2, 1, math.MinInt) != 1 || Pow(2, 0, 0) != 1 || Pow(2, 0, -1) != 0 {
		t.Error("the field of 2")
	}
	if x, e := Inverse(2, 1); x != 1 || e != api.OK {
		t.Error("Inverse", x, e)
	}
	if x, e := Inverse(2, 0); x != 0 || e != api.ErrZero {
		t.Error("Inverse", x, e)
	}
}

func TestPowOfSmallExponents(t *testing.T) {
	for _, p := range primes {
		for a := range p {
			power := 1
			for n := range 3 * p {
				if got := Pow(p, a, n); got != power {
					t.Error("Pow", p, a, n, got)
				}
				if got := Pow(p, a, -n); a > 0 && got*power%p != 1 {
					t.Error("Pow", p, a, -n, got)
				}
				power = power * a % p
			}
		}
	}
}

func TestPowOfGreatExponents(t *testing.T) {
	for _, p := range slices.Concat(primes, great) {
		exponents := []int{math.MinInt, math.MinInt + 1, -1 << 40, -p - 1, -p, -p + 1, -2, -1, 0, 1, 2, p - 2, p - 1, p, 1 << 62, math.MaxInt - 1, math.MaxInt}
		for _, a := range samples(p) {
			for _, n := range exponents {
				if got := Pow(p, a, n); got != exactPower(p, a, n) {
					t.Error("Pow", p, a, n, got)
				}
			}
		}
	}
}

func TestPowOfZeroAndToZero(t *testing.T) {
	for _, p := range slices.Concat(primes, great) {
		for _, n := range []int{math.MinInt, -p + 1, -2, -1, 1, 2, p - 1, math.MaxInt} {
			if got := Pow(p, 0, n); got != 0 {
				t.Error("Pow", p, 0, n, got)
			}
		}
		for _, a := range samples(p) {
			if got := Pow(p, a, 0); got != 1 {
				t.Error("Pow", p, a, 0, got)
			}
		}
	}
}

func TestInverse(t *testing.T) {
	for _, p := range slices.Concat(primes, great) {
		for _, a := range samples(p) {
			x, e := Inverse(p, a)
			if a == 0 && (x != 0 || e != api.ErrZero) {
				t.Error("Inverse of 0", p, x, e)
			}
			if a > 0 && (e != api.OK || x < 0 || x >= p || x*a%p != 1) {
				t.Error("Inverse", p, a, x, e)
			}
		}
	}
}

func TestConsequences(t *testing.T) {
	for _, p := range primes {
		for a := range p {
			if a > 0 && Pow(p, a, p-1) != 1 {
				t.Error("power of p-1", p, a)
			}
			for b := range p {
				for c := range p {
					if Add(p, a, Add(p, b, c)) != Add(p, Add(p, a, b), c) || Mul(p, a, Mul(p, b, c)) != Mul(p, Mul(p, a, b), c) {
						t.Error("brackets", p, a, b, c)
					}
					if Mul(p, a, Add(p, b, c)) != Add(p, Mul(p, a, b), Mul(p, a, c)) {
						t.Error("a product of a sum", p, a, b, c)
					}
				}
				if Add(p, a, b) != Add(p, b, a) || Mul(p, a, b) != Mul(p, b, a) || Add(p, Sub(p, a, b), b) != a {
					t.Error("order", p, a, b)
				}
			}
		}
	}
}

// P1.3

func TestLinear(t *testing.T) {
	for i, x := range []struct {
		p    int
		a, b []int
		c    int
		want []int
	}{
		{7, nil, nil, 3, nil},
		{7, []int{}, []int{}, 0, nil},
		{7, []int{1, 2, 3}, []int{4, 5, 6}, 1, []int{5, 0, 2}},
		{7, []int{1, 2, 3}, []int{4, 5}, 2, []int{2, 5, 3}},
		{7, []int{6}, []int{6, 6, 6}, 6, []int{0, 1, 1}},
		{7, []int{5, 1, 0}, nil, 4, []int{5, 1, 0}},
		{7, nil, []int{3, 4}, 5, []int{1, 6}},
		{7, nil, []int{3, 4}, 0, []int{0, 0}},
		{7, []int{2}, []int{3, 4}, 0, []int{2, 0}},
		{7, []int{3, 4}, []int{3, 4}, 6, []int{0, 0}},
		{2, []int{1, 0, 1}, []int{1, 1}, 1, []int{0, 1, 1}},
		{1073741789, []int{1073741788, 5}, []int{1073741788, 1073741788}, 1073741788, []int{0, 6}},
	} {
		if got := Linear(x.p, x.a, x.b, x.c); !slices.Equal(got, x.want) {
			t.Error("Linear", i, got)
		}
	}
}

func TestLinearOfLongLists(t *testing.T) {
	p := api.Prime
	for _, c := range samples(p) {
		a, b := samples(p), slices.Repeat(samples(p), 3)
		for _, l := range [][2][]int{{a, b}, {b, a}} {
			got := Linear(p, l[0], l[1], c)
			want := slices.Clone(b)
			for i := range want {
				sum := new(big.Int)
				if i < len(l[1]) {
					sum.Mul(big.NewInt(int64(c)), big.NewInt(int64(l[1][i])))
				}
				if i < len(l[0]) {
					sum.Add(sum, big.NewInt(int64(l[0][i])))
				}
				want[i] = exact(p, sum)
			}
			if !slices.Equal(got, want) {
				t.Error("Linear", c)
			}
		}
	}
}

// P1, with rule 1

func TestListsAreLeftAlone(t *testing.T) {
	whole := []int{1, 2, 3, 4, 5, 6}
	for _, lengths := range [][2]int{{3, 2}, {2, 3}, {3, 0}, {0, 3}, {0, 0}, {3, 3}} {
		a, b := slices.Clone(whole), slices.Clone(whole)
		sums := Linear(7, a[:lengths[0]], b[:lengths[1]], 2)
		Elements(7, a[:lengths[0]])
		sums = sums[:cap(sums)]
		for i := range sums {
			sums[i] = 99
		}
		if !slices.Equal(a, whole) || !slices.Equal(b, whole) {
			t.Error("Linear", lengths, a, b)
		}
	}
}

// strange are numbers that are no permitted primes, no elements, or lead to sums that do not fit.
var strange = []int{math.MinInt, math.MinInt + 1, -1 << 32, -api.Prime, -2, -1, 0, 1, 2, 4, 7, 9, api.Prime, api.MaxPrime, 1073741827, 1 << 32, math.MaxInt - 1, math.MaxInt}

func TestNothingPanics(t *testing.T) {
	for _, p := range strange {
		Valid(p)
		Elements(p, strange)
		for _, a := range strange {
			Element(p, a)
			Linear(p, strange, []int{a}, a)
			Linear(p, nil, strange, a)
			if x, e := Inverse(p, a); e != api.OK && x != 0 {
				t.Error("a result with an error", p, a, x, e)
			}
			for _, b := range strange {
				Add(p, a, b)
				Sub(p, a, b)
				Mul(p, a, b)
				Pow(p, a, b)
			}
		}
	}
}
