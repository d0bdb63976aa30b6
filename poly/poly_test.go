package poly

import (
	"iter"
	"math"
	"math/big"
	"slices"
	"testing"

	"reportescrow/api"
)

// small are primes for which all lists are tried; great those for which products come near 2^60.
var (
	small = []int{2, 3, 5}
	great = []int{65537, api.Prime, 1073741783, 1073741789}
)

// lists gives all lists of so many elements of the field of p.
func lists(p, length int) iter.Seq[[]int] {
	return func(yield func([]int) bool) {
		count := 1
		for range length {
			count *= p
		}
		for n := range count {
			l := make([]int, length)
			for i := range l {
				l[i] = n % p
				n /= p
			}
			if !yield(l) {
				return
			}
		}
	}
}

// upTo gives all lists of at most so many elements of the field of p.
func upTo(p, most int) iter.Seq[[]int] {
	return func(yield func([]int) bool) {
		for length := range most + 1 {
			for l := range lists(p, length) {
				if !yield(l) {
					return
				}
			}
		}
	}
}

// places gives all lists of so many different elements of the field of p, in each order.
func places(p, length int) iter.Seq[[]int] {
	return func(yield func([]int) bool) {
		for l := range lists(p, length) {
			if !twice(l) && !yield(l) {
				return
			}
		}
	}
}

func twice(l []int) bool {
	sorted := slices.Sorted(slices.Values(l))
	return len(slices.Compact(sorted)) < len(l)
}

// spread are so many elements of the field of p without an order, different ones if p is great.
func spread(p, length, seed int) []int {
	l := make([]int, length)
	for i := range l {
		l[i] = int(uint64(seed*1000+i+1) * 0x9E3779B97F4A7C15 >> 3 % uint64(p))
	}
	return l
}

// exact is the value of a polynomial at x, by numbers of any length.
func exact(p int, poly []int, x int) int {
	sum := new(big.Int)
	for i, c := range poly {
		power := new(big.Int).Exp(big.NewInt(int64(x)), big.NewInt(int64(i)), nil)
		sum.Add(sum, power.Mul(power, big.NewInt(int64(c))))
	}
	return int(sum.Mod(sum, big.NewInt(int64(p))).Int64())
}

func exactAll(p int, poly, xs []int) []int {
	ys := make([]int, len(xs))
	for i, x := range xs {
		ys[i] = exact(p, poly, x)
	}
	return ys
}

// trimmed is a list without the zeros at its end.
func trimmed(l []int) []int {
	for len(l) > 0 && l[len(l)-1] == 0 {
		l = l[:len(l)-1]
	}
	return l
}

// product sums up, for each power, what leads to it, by numbers of any length.
func product(p int, a, b []int) []int {
	l := make([]int, len(a)+len(b))
	for power := range l {
		sum := new(big.Int)
		for i := max(0, power-len(b)+1); i <= power && i < len(a); i++ {
			c := big.NewInt(int64(a[i]))
			sum.Add(sum, c.Mul(c, big.NewInt(int64(b[power-i]))))
		}
		l[power] = int(sum.Mod(sum, big.NewInt(int64(p))).Int64())
	}
	return trimmed(l)
}

func elements(p int, l []int) bool {
	return !slices.ContainsFunc(l, func(n int) bool { return n < 0 || n >= p })
}

// P2.1: Eval

func TestEvalOfAllSmall(t *testing.T) {
	for _, p := range small {
		for f := range upTo(p, 4) {
			for x := range p {
				if got := Eval(p, f, x); got != exact(p, f, x) {
					t.Error("Eval", p, f, x, got)
				}
			}
		}
	}
}

func TestEvalOfGreat(t *testing.T) {
	for _, p := range great {
		for length := range 20 {
			for _, f := range [][]int{spread(p, length, length), slices.Repeat([]int{p - 1}, length)} {
				for _, x := range []int{0, 1, 2, p / 2, p - 2, p - 1} {
					if got := Eval(p, f, x); got != exact(p, f, x) {
						t.Error("Eval", p, f, x, got)
					}
				}
			}
		}
	}
}

func TestEvalEdges(t *testing.T) {
	for i, x := range []struct {
		p    int
		f    []int
		x    int
		want int
	}{
		{7, nil, 3, 0}, {7, []int{}, 0, 0}, {2, nil, 1, 0}, {7, []int{0, 0}, 5, 0},
		{7, []int{5}, 6, 5}, {7, []int{5}, 0, 5}, {7, []int{4, 6, 6}, 0, 4},
		{7, []int{1, 2, 3}, 2, 3}, {7, []int{1, 2, 3, 0, 0}, 2, 3}, {7, []int{0, 0, 1}, 3, 2}, {7, []int{0, 1}, 6, 6},
		{2, []int{1, 1}, 1, 0}, {2, []int{1, 1}, 0, 1}, {2, []int{1, 0, 1, 1}, 1, 1},
	} {
		if got := Eval(x.p, x.f, x.x); got != x.want {
			t.Error("Eval", i, got)
		}
	}
}

// P2.1: Degree

func TestDegree(t *testing.T) {
	for i, x := range []struct {
		f    []int
		want int
	}{
		{nil, -1}, {[]int{}, -1}, {[]int{0}, -1}, {[]int{0, 0, 0}, -1},
		{[]int{1}, 0}, {[]int{1, 0}, 0}, {[]int{3, 0, 0, 0}, 0},
		{[]int{0, 1}, 1}, {[]int{5, 2}, 1}, {[]int{0, 0, 3}, 2}, {[]int{0, 4, 0, 6, 0}, 3}, {[]int{1, 1, 1, 1}, 3},
		{append(make([]int, 2000), api.Prime-1, 0, 0), 2000}, {make([]int, 2000), -1},
	} {
		if got := Degree(x.f); got != x.want {
			t.Error("Degree", i, got)
		}
	}
}

// P2.1: Mul

func TestMulOfAllSmall(t *testing.T) {
	for _, p := range small {
		for a := range upTo(p, 3) {
			for b := range upTo(p, 3) {
				if got := Mul(p, a, b); !slices.Equal(got, product(p, a, b)) {
					t.Error("Mul", p, a, b, got)
				}
			}
		}
	}
}

func TestMulOfGreat(t *testing.T) {
	for _, p := range great {
		for _, lengths := range [][2]int{{1, 1}, {1, 30}, {30, 1}, {7, 8}, {40, 25}} {
			a, b := spread(p, lengths[0], 1), spread(p, lengths[1], 2)
			most := slices.Repeat([]int{p - 1}, lengths[0])
			for _, c := range [][]int{a, most, append(slices.Clone(a), 0, 0)} {
				if got := Mul(p, c, b); !slices.Equal(got, product(p, c, b)) {
					t.Error("Mul", p, c, b, got)
				}
				if got := Mul(p, b, c); !slices.Equal(got, product(p, c, b)) {
					t.Error("Mul", p, b, c, got)
				}
			}
		}
	}
}

func TestMulIsShort(t *testing.T) {
	for i, x := range []struct {
		p          int
		a, b, want []int
	}{
		{7, nil, nil, nil}, {7, nil, []int{1, 2}, nil}, {7, []int{3}, nil, nil}, {7, []int{0}, []int{1, 2}, nil}, {7, []int{1, 2}, []int{0, 0}, nil}, {7, []int{0}, []int{0}, nil},
		{7, []int{1}, []int{1}, []int{1}}, {7, []int{3, 0}, []int{5, 0}, []int{1}}, {7, []int{1, 1}, []int{6, 1}, []int{6, 0, 1}}, {7, []int{2, 3, 0, 0}, []int{4, 5, 6, 0}, []int{1, 1, 6, 4}},
		{7, []int{0, 1}, []int{0, 0, 6, 0}, []int{0, 0, 0, 6}}, {2, []int{1, 1}, []int{1, 1}, []int{1, 0, 1}}, {2, []int{0, 1}, []int{0, 1, 0}, []int{0, 0, 1}},
	} {
		if got := Mul(x.p, x.a, x.b); !slices.Equal(got, x.want) {
			t.Error("Mul", i, got)
		}
	}
}

// P2.2: Weights

// checkWeights tries the weights on all powers below their number: they are right for these alone if they are for each polynomial.
func checkWeights(t *testing.T, p int, xs []int, x int) {
	weights, e := Weights(p, xs, x)
	if e != api.OK || len(weights) != len(xs) || !elements(p, weights) {
		t.Fatal("Weights", p, xs, x, weights, e)
	}
	for power := range xs {
		f := append(make([]int, power), 1)
		sum := new(big.Int)
		for i, y := range exactAll(p, f, xs) {
			weighted := big.NewInt(int64(weights[i]))
			sum.Add(sum, weighted.Mul(weighted, big.NewInt(int64(y))))
		}
		if got := int(sum.Mod(sum, big.NewInt(int64(p))).Int64()); got != exact(p, f, x) {
			t.Error("Weights", p, xs, x, weights, "of power", power)
		}
	}
	if own := slices.Index(xs, x); own >= 0 { // the consequence for one of the places
		want := make([]int, len(xs))
		want[own] = 1
		if !slices.Equal(weights, want) {
			t.Error("Weights", p, xs, x, weights)
		}
	}
}

func TestWeightsOfAllSmall(t *testing.T) {
	for _, p := range small {
		for length := 1; length <= p; length++ {
			for xs := range places(p, length) {
				for x := range p {
					checkWeights(t, p, xs, x)
				}
			}
		}
	}
}

func TestWeightsOfGreat(t *testing.T) {
	for _, p := range great {
		for length := 1; length <= api.MaxHolders; length++ {
			holders := make([]int, length)
			for i := range holders {
				holders[i] = length - i
			}
			for _, xs := range [][]int{holders, spread(p, length, 3)} {
				for _, x := range []int{0, 1, p / 2, p - 1, xs[0], xs[length/2], xs[length-1]} {
					checkWeights(t, p, xs, x)
				}
			}
		}
	}
}

func TestWeightsEdges(t *testing.T) {
	for i, x := range []struct {
		p    int
		xs   []int
		x    int
		want []int
	}{
		{7, []int{1, 2}, 0, []int{2, 6}}, {7, []int{2, 1}, 0, []int{6, 2}}, {7, []int{1, 2, 4}, 2, []int{0, 1, 0}}, {7, []int{0}, 0, []int{1}}, {7, []int{3}, 5, []int{1}},
		{2, []int{1}, 0, []int{1}}, {2, []int{0}, 0, []int{1}}, {2, []int{0, 1}, 0, []int{1, 0}}, {2, []int{0, 1}, 1, []int{0, 1}}, {2, []int{1, 0}, 1, []int{1, 0}},
	} {
		if got, e := Weights(x.p, x.xs, x.x); e != api.OK || !slices.Equal(got, x.want) {
			t.Error("Weights", i, got, e)
		}
	}
}

func TestWeightsErrors(t *testing.T) {
	for i, x := range []struct {
		p    int
		xs   []int
		want api.Errno
	}{
		{7, nil, api.ErrInvalid}, {7, []int{}, api.ErrInvalid}, {2, nil, api.ErrInvalid},
		{7, []int{3, 3}, api.ErrExists}, {7, []int{0, 0}, api.ErrExists}, {7, []int{1, 2, 3, 1}, api.ErrExists}, {7, []int{4, 1, 2, 2}, api.ErrExists}, {2, []int{0, 1, 0}, api.ErrExists}, {2, []int{1, 1}, api.ErrExists},
	} {
		for place := range x.p {
			if got, e := Weights(x.p, x.xs, place); e != x.want || len(got) > 0 {
				t.Error("Weights", i, place, got, e)
			}
		}
	}
}

// P2.2: Interpolate, Through

// checkPoints lets a polynomial with at most as many coefficients as there are places be found again from its values.
func checkPoints(t *testing.T, p int, f, xs, at []int) {
	ys := exactAll(p, f, xs)
	if got, e := Through(p, xs, ys); e != api.OK || !slices.Equal(got, trimmed(f)) {
		t.Error("Through", p, xs, ys, got, e)
	}
	for _, x := range at {
		if got, e := Interpolate(p, xs, ys, x); e != api.OK || got != exact(p, f, x) {
			t.Error("Interpolate", p, xs, ys, x, got, e)
		}
	}
}

func TestPointsOfAllSmall(t *testing.T) {
	for _, p := range small {
		all := make([]int, p)
		for x := range all {
			all[x] = x
		}
		for length := 1; length <= min(p, 4); length++ {
			for xs := range places(p, length) {
				for f := range lists(p, length) {
					checkPoints(t, p, f, xs, all)
				}
			}
		}
	}
}

func TestPointsOfWholeField(t *testing.T) {
	xs := []int{4, 0, 3, 1, 2}
	for f := range lists(5, 5) {
		checkPoints(t, 5, f, xs, xs)
	}
}

func TestPointsOfGreat(t *testing.T) {
	for _, p := range great {
		for _, length := range []int{1, 2, 3, 5, api.MaxHolders, 60} {
			xs := spread(p, length, 4)
			at := []int{0, 1, p / 2, p - 1, xs[0], xs[length-1]}
			for _, fewer := range []int{0, 1, length / 2, length} {
				checkPoints(t, p, spread(p, length-fewer, 5), xs, at)
			}
			checkPoints(t, p, slices.Repeat([]int{p - 1}, length), xs, at)
		}
	}
}

func TestPointsEdges(t *testing.T) {
	for i, x := range []struct {
		p            int
		xs, ys, want []int
	}{
		{7, []int{1, 2}, []int{2, 3}, []int{1, 1}},
		{7, []int{0, 1, 2}, []int{0, 0, 0}, nil}, {7, []int{3, 5, 6}, []int{4, 4, 4}, []int{4}}, {7, []int{0, 1, 2, 3}, []int{0, 1, 2, 3}, []int{0, 1}},
		{7, []int{0}, []int{0}, nil}, {7, []int{6}, []int{3}, []int{3}}, {7, []int{0, 6}, []int{0, 1}, []int{0, 6}},
		{2, []int{0, 1}, []int{1, 0}, []int{1, 1}}, {2, []int{1, 0}, []int{1, 1}, []int{1}}, {2, []int{1}, []int{0}, nil},
	} {
		if got, e := Through(x.p, x.xs, x.ys); e != api.OK || !slices.Equal(got, x.want) {
			t.Error("Through", i, got, e)
		}
		for k, place := range x.xs {
			if got, e := Interpolate(x.p, x.xs, x.ys, place); e != api.OK || got != x.ys[k] {
				t.Error("Interpolate", i, place, got, e)
			}
		}
	}
}

func TestPointsErrors(t *testing.T) {
	for i, x := range []struct {
		p      int
		xs, ys []int
		want   api.Errno
	}{
		{7, nil, nil, api.ErrInvalid}, {7, []int{}, []int{}, api.ErrInvalid}, {7, nil, []int{1}, api.ErrInvalid}, {2, nil, nil, api.ErrInvalid},
		{7, []int{1}, nil, api.ErrInvalid}, {7, []int{1, 2}, []int{1}, api.ErrInvalid}, {7, []int{1, 2}, []int{1, 2, 3}, api.ErrInvalid}, {2, []int{0, 1}, []int{1}, api.ErrInvalid},
		{7, []int{1, 1}, []int{1}, api.ErrInvalid}, {7, []int{1, 1}, []int{1, 1, 1}, api.ErrInvalid}, {7, []int{1, 1}, nil, api.ErrInvalid},
		{7, []int{1, 1}, []int{2, 2}, api.ErrExists}, {7, []int{1, 1}, []int{2, 3}, api.ErrExists}, {7, []int{0, 0}, []int{0, 0}, api.ErrExists}, {7, []int{1, 2, 3, 1}, []int{1, 2, 3, 1}, api.ErrExists}, {7, []int{3, 1, 2, 2}, []int{0, 0, 0, 0}, api.ErrExists}, {2, []int{0, 1, 1}, []int{0, 1, 0}, api.ErrExists},
	} {
		if got, e := Through(x.p, x.xs, x.ys); e != x.want || len(got) > 0 {
			t.Error("Through", i, got, e)
		}
		for place := range x.p {
			if got, e := Interpolate(x.p, x.xs, x.ys, place); e != x.want || got != 0 {
				t.Error("Interpolate", i, place, got, e)
			}
		}
	}
}

// P2.3

// checkDivision holds the result against the definition, which only one pair of short polynomials meets.
func checkDivision(t *testing.T, p int, a, b []int) {
	quotient, rest, e := Divide(p, a, b)
	if len(trimmed(b)) == 0 {
		if e != api.ErrZero || len(quotient)+len(rest) > 0 {
			t.Error("Divide by 0", p, a, b, quotient, rest, e)
		}
		return
	}
	if e != api.OK || !elements(p, quotient) || !elements(p, rest) || len(trimmed(quotient)) < len(quotient) || len(trimmed(rest)) < len(rest) || len(rest) >= len(trimmed(b)) {
		t.Error("Divide", p, a, b, quotient, rest, e)
		return
	}
	again := product(p, quotient, b)
	again = append(again, make([]int, max(0, len(rest)-len(again)))...)
	for i, c := range rest {
		again[i] = (again[i] + c) % p
	}
	if !slices.Equal(trimmed(again), trimmed(a)) {
		t.Error("Divide", p, a, b, quotient, rest)
	}
}

func TestDivideAllSmall(t *testing.T) {
	for _, p := range small {
		for a := range upTo(p, 4) {
			for b := range upTo(p, 3) {
				checkDivision(t, p, a, b)
			}
		}
	}
	for a := range upTo(2, 7) {
		for b := range upTo(2, 5) {
			checkDivision(t, 2, a, b)
		}
	}
}

func TestDivideGreat(t *testing.T) {
	for _, p := range great {
		for _, lengths := range [][2]int{{0, 1}, {1, 1}, {9, 1}, {9, 2}, {9, 8}, {9, 9}, {9, 10}, {1, 9}, {50, 20}} {
			a, b := spread(p, lengths[0], 6), spread(p, lengths[1], 7)
			checkDivision(t, p, a, b)
			checkDivision(t, p, append(slices.Clone(a), 0, 0), append(slices.Clone(b), 0))
			checkDivision(t, p, product(p, a, b), b)
			checkDivision(t, p, slices.Repeat([]int{p - 1}, lengths[0]), b)
			checkDivision(t, p, a, slices.Repeat([]int{p - 1}, lengths[1]))
		}
	}
}

func TestDivideEdges(t *testing.T) {
	for i, x := range []struct {
		p                    int
		a, b, quotient, rest []int
	}{
		{7, []int{6, 0, 1}, []int{6, 1}, []int{1, 1}, nil}, {7, []int{5, 0, 0, 1, 0}, []int{0, 2, 0}, []int{0, 0, 4}, []int{5}},
		{7, nil, []int{3}, nil, nil}, {7, []int{0, 0}, []int{3, 1}, nil, nil}, {7, []int{1, 2, 3}, []int{2, 0}, []int{4, 1, 5}, nil}, {7, []int{5}, []int{4}, []int{3}, nil},
		{7, []int{1, 2}, []int{0, 0, 1}, nil, []int{1, 2}}, {7, []int{1, 2, 0, 0}, []int{0, 0, 1}, nil, []int{1, 2}}, {7, []int{3}, []int{1, 1}, nil, []int{3}},
		{7, []int{1, 2}, []int{3, 4}, []int{4}, []int{3}}, {7, []int{1, 2, 3}, []int{1, 2, 3}, []int{1}, nil}, {7, []int{2, 0, 0, 0, 1}, []int{0, 0, 0, 1}, []int{0, 1}, []int{2}},
		{2, []int{1, 0, 1}, []int{1, 1}, []int{1, 1}, nil}, {2, []int{1, 1, 1}, []int{1, 1}, []int{0, 1}, []int{1}}, {2, []int{1}, []int{1}, []int{1}, nil},
	} {
		quotient, rest, e := Divide(x.p, x.a, x.b)
		if e != api.OK || !slices.Equal(quotient, x.quotient) || !slices.Equal(rest, x.rest) {
			t.Error("Divide", i, quotient, rest, e)
		}
	}
}

func TestDivideByZero(t *testing.T) {
	for _, a := range [][]int{nil, {}, {0}, {1}, {1, 2, 3}} {
		for _, b := range [][]int{nil, {}, {0}, {0, 0, 0, 0}} {
			for _, p := range []int{2, 7, api.Prime} {
				if quotient, rest, e := Divide(p, a, b); e != api.ErrZero || len(quotient)+len(rest) > 0 {
					t.Error("Divide", p, a, b, quotient, rest, e)
				}
			}
		}
	}
}

// P1, with rule 1

// results are the lists that the functions return for two lists.
func results(p int, a, b []int) [][]int {
	Eval(p, a, 3)
	Degree(a)
	Interpolate(p, a, b, 3)
	weights, _ := Weights(p, a, 3)
	through, _ := Through(p, a, b)
	quotient, rest, _ := Divide(p, a, b)
	return [][]int{weights, through, Mul(p, a, b), quotient, rest}
}

func TestListsAreLeftAlone(t *testing.T) {
	whole := []int{1, 2, 3, 4, 5, 6}
	for n := range len(whole) + 1 {
		for m := range len(whole) + 1 {
			a, b := slices.Clone(whole), slices.Clone(whole)
			made := results(7, a[:n], b[:m])
			for i, l := range made { // a result may be written to, with all of its memory, and only it changes
				others := slices.Concat(slices.Concat(made[:i]...), slices.Concat(made[i+1:]...))
				l = l[:cap(l)]
				for k := range l {
					l[k] = 99 + i
				}
				if now := slices.Concat(slices.Concat(made[:i]...), slices.Concat(made[i+1:]...)); !slices.Equal(now, others) {
					t.Error("results share memory", n, m, i)
				}
			}
			if !slices.Equal(a, whole) || !slices.Equal(b, whole) {
				t.Error("an argument was changed", n, m, a, b)
			}
		}
	}
}

func TestNilIsEmpty(t *testing.T) {
	for _, l := range [][]int{nil, {}, {1}, {2, 3}} {
		for _, pair := range [][2][][]int{{results(7, nil, l), results(7, []int{}, l)}, {results(7, l, nil), results(7, l, []int{})}} {
			for i := range pair[0] {
				if !slices.Equal(pair[0][i], pair[1][i]) {
					t.Error("nil and empty", l, i)
				}
			}
		}
	}
}

// strange are numbers that are no permitted primes, no elements, or lead to sums that do not fit.
var strange = []int{math.MinInt, math.MinInt + 1, -1 << 32, -api.Prime, -2, -1, 0, 1, 2, 4, 7, 9, api.Prime, api.MaxPrime, 1073741827, 1 << 32, math.MaxInt - 1, math.MaxInt}

func TestNothingPanics(t *testing.T) {
	shapes := [][]int{nil, {0}, {0, 0}, strange, slices.Concat(strange, []int{0}), {9, 0}, {7, 14, 21}, {-7, 0, 7}, slices.Repeat([]int{3}, 5), {math.MinInt}, {math.MaxInt, math.MinInt, -1}}
	for _, p := range strange {
		for _, a := range shapes {
			for _, b := range shapes {
				results(p, a, b)
			}
			for _, x := range strange {
				Eval(p, a, x)
				Weights(p, a, x)
				Interpolate(p, a, a, x)
			}
		}
	}
}

func TestErrorsOutsideTheField(t *testing.T) {
	for _, p := range strange {
		for _, x := range strange {
			if l, e := Weights(p, nil, x); e != api.ErrInvalid || len(l) > 0 {
				t.Error("Weights", p, x, l, e)
			}
			if l, e := Weights(p, []int{x, 5, x}, 1); e != api.ErrExists || len(l) > 0 {
				t.Error("Weights", p, x, l, e)
			}
			if y, e := Interpolate(p, []int{x, x}, []int{x}, x); e != api.ErrInvalid || y != 0 {
				t.Error("Interpolate", p, x, y, e)
			}
			if y, e := Interpolate(p, []int{x, x}, []int{x, 5}, x); e != api.ErrExists || y != 0 {
				t.Error("Interpolate", p, x, y, e)
			}
			if l, e := Through(p, []int{x, x}, []int{x}); e != api.ErrInvalid || len(l) > 0 {
				t.Error("Through", p, x, l, e)
			}
			if l, e := Through(p, []int{x, x}, []int{x, 5}); e != api.ErrExists || len(l) > 0 {
				t.Error("Through", p, x, l, e)
			}
			if quotient, rest, e := Divide(p, []int{x, 5}, []int{0}); e != api.ErrZero || len(quotient)+len(rest) > 0 {
				t.Error("Divide", p, x, quotient, rest, e)
			}
		}
	}
}
