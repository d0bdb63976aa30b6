package reshare

import (
	"iter"
	"math"
	"math/big"
	"slices"
	"testing"

	"reportescrow/api"
	"reportescrow/share"
)

// great are primes for which products come near 2^60.
var great = []int{65537, api.Prime, 1073741783, 1073741789}

func plan(p, need, holders int) api.Plan {
	return api.Plan{Prime: p, Need: need, Holders: holders}
}

func of(holder int, values ...int) api.Share { return api.Share{Holder: holder, Values: values} }

func same(a, b []api.Share) bool {
	return slices.EqualFunc(a, b, func(x, y api.Share) bool { return x.Holder == y.Holder && slices.Equal(x.Values, y.Values) })
}

// lists gives all lists of so many numbers from 0 to p - 1.
func lists(p, length int) iter.Seq[[]int] {
	return func(yield func([]int) bool) {
		count := 1
		for range length {
			count *= p
		}
		for n := range count {
			l := make([]int, length)
			for i := range l {
				l[i] = n % p
				n /= p
			}
			if !yield(l) {
				return
			}
		}
	}
}

// orders gives all lists of so many different holders out of 1 to most, in each order.
func orders(most, length int) iter.Seq[[]int] {
	return func(yield func([]int) bool) {
		for l := range lists(most, length) {
			for i := range l {
				l[i]++
			}
			sorted := slices.Sorted(slices.Values(l))
			if len(slices.Compact(sorted)) == length && !yield(l) {
				return
			}
		}
	}
}

// spread are so many elements of the field of p without an order.
func spread(p, length, seed int) []int {
	l := make([]int, length)
	for i := range l {
		l[i] = int(uint64(seed*100000+i+1) * 0x9E3779B97F4A7C15 >> 3 % uint64(p))
	}
	return l
}

// spreads are so many lists of such elements.
func spreads(p, count, length, seed int) [][]int {
	l := make([][]int, count)
	for i := range l {
		l[i] = spread(p, length, seed+i)
	}
	return l
}

// exact is the value of a polynomial at x. All numbers are less than 2^30, so that none here is too great.
func exact(p int, f []int, x int) int {
	sum := 0
	for _, c := range slices.Backward(f) {
		sum = (sum*x + c) % p
	}
	return sum
}

// dealt are the shares by the definition.
func dealt(pl api.Plan, secret, random []int) []api.Share {
	var l []api.Share
	for holder := 1; holder <= pl.Holders; holder++ {
		s := of(holder)
		for i, x := range secret {
			f := append([]int{x}, random[i*(pl.Need-1):(i+1)*(pl.Need-1)]...)
			s.Values = append(s.Values, exact(pl.Prime, f, holder))
		}
		l = append(l, s)
	}
	return l
}

// weightsOf are the weights at 0 by numbers of any size: for each place, the product of the others over that of the differences.
func weightsOf(p int, from []int) []int {
	var weights []int
	for i, own := range from {
		above, below := big.NewInt(1), big.NewInt(1)
		for k, other := range from {
			if k != i {
				above.Mul(above, big.NewInt(int64(-other)))
				below.Mul(below, big.NewInt(int64(own-other)))
			}
		}
		modulus := big.NewInt(int64(p))
		below.Mod(below, modulus).ModInverse(below, modulus)
		weights = append(weights, int(above.Mul(above, below).Mod(above, modulus).Int64()))
	}
	return weights
}

// weighed is the sum of the products of weights and lists.
func weighed(p int, weights []int, all [][]int) []int {
	sums := make([]int, len(all[0]))
	for i, w := range weights {
		for k, n := range all[i] {
			sums[k] = (sums[k] + w*n) % p
		}
	}
	return sums
}

func valuesOf(l []api.Share) [][]int {
	var values [][]int
	for _, s := range l {
		values = append(values, s.Values)
	}
	return values
}

func holdersOf(l []api.Share) []int {
	var holders []int
	for _, s := range l {
		holders = append(holders, s.Holder)
	}
	return holders
}

func at(l []api.Share, holders []int) []api.Share {
	var chosen []api.Share
	for _, h := range holders {
		chosen = append(chosen, l[h-1])
	}
	return chosen
}

// column are the shares of all holders of one element each.
func column(values ...int) []api.Share {
	var l []api.Share
	for i, v := range values {
		l = append(l, of(i+1, v))
	}
	return l
}

// parts are what one holder has got: one element of each one.
func parts(holder int, values ...int) []api.Share {
	var l []api.Share
	for _, v := range values {
		l = append(l, of(holder, v))
	}
	return l
}

// smallPlans are plans over one field for which all that is dealt can be tried; greatPlans those with great fields and many holders.
func smallPlans(p int) []api.Plan {
	var l []api.Plan
	for holders := 1; holders < min(p, 5); holders++ {
		for need := 1; need <= holders; need++ {
			l = append(l, plan(p, need, holders))
		}
	}
	return l
}

func greatPlans(p int) []api.Plan {
	return []api.Plan{plan(p, 1, 1), plan(p, 1, 16), plan(p, 2, 3), plan(p, 3, 5), plan(p, 5, 5), plan(p, 9, 15), plan(p, 16, 16)}
}

// pairs gives all plans from and to which shares move, and whether they are small.
func pairs() iter.Seq2[api.Plan, api.Plan] {
	return func(yield func(api.Plan, api.Plan) bool) {
		for _, p := range []int{2, 3, 5, 17, 19} {
			for _, from := range smallPlans(p) {
				for _, to := range smallPlans(p) {
					if !yield(from, to) {
						return
					}
				}
			}
		}
		for _, p := range great {
			for _, from := range greatPlans(p) {
				for _, to := range greatPlans(p) {
					if !yield(from, to) {
						return
					}
				}
			}
		}
	}
}

// notValid are plans that are not, each for one reason, and some for more.
func notValid() []api.Plan {
	return []api.Plan{{}, plan(8, 1, 1), plan(1, 1, 1), plan(0, 1, 1), plan(-7, 1, 1), plan(1073741827, 1, 1), plan(7, 0, 3), plan(7, -1, 3), plan(7, 4, 3), plan(7, 1, 7), plan(7, 3, 8), plan(2, 1, 2), plan(7, 0, 0), plan(7, -2, -1), plan(api.Prime, 1, 17), plan(api.Prime, 17, 17), plan(api.Prime, 17, 16), plan(api.Prime, math.MinInt, math.MaxInt), plan(math.MaxInt, 1, 1), plan(math.MinInt, 1, 1), plan(api.Prime, 1, math.MaxInt), plan(api.Prime, math.MinInt, 1)}
}

// unrelated are pairs of plans of which one is not valid, or both have different primes.
func unrelated() [][2]api.Plan {
	var l [][2]api.Plan
	for _, bad := range notValid() {
		good := plan(7, 1, 1) // the same prime as far as there is a good plan with it
		if bad.Prime == 2 || bad.Prime == api.Prime {
			good.Prime = bad.Prime
		}
		l = append(l, [2]api.Plan{bad, good}, [2]api.Plan{good, bad}, [2]api.Plan{bad, bad})
	}
	for _, p := range []int{2, 3, 5, 11, api.Prime} {
		l = append(l, [2]api.Plan{plan(7, 1, 1), plan(p, 1, 1)}, [2]api.Plan{plan(p, 1, 1), plan(7, 1, 1)})
	}
	return l
}

// P9.1: Split

func checkSplit(t *testing.T, from, to api.Plan, s api.Share, random []int) {
	l, e := Split(from, to, s, random)
	if e != api.OK || !same(l, dealt(to, s.Values, random)) {
		t.Error("Split", from, to, s, random, l, e)
	}
	if d, e := share.Deal(to, s.Values, random); e != api.OK || !same(l, d) {
		t.Error("Split is not share.Deal of the values", from, to, s, random, l, d)
	}
}

func TestSplitOfAllSmall(t *testing.T) {
	for _, p := range []int{2, 3, 5} {
		for _, from := range smallPlans(p) {
			for _, to := range smallPlans(p) {
				for value := range p {
					for random := range lists(p, to.Need-1) {
						for holder := 1; holder <= from.Holders; holder++ {
							checkSplit(t, from, to, of(holder, value), random)
						}
					}
				}
			}
		}
	}
}

func TestSplitOfGreat(t *testing.T) {
	for from, to := range pairs() {
		for _, count := range []int{0, 1, 2, 20} {
			n := count * (to.Need - 1)
			for _, holder := range []int{1, from.Holders} {
				checkSplit(t, from, to, of(holder, spread(to.Prime, count, 1)...), spread(to.Prime, n, 2))
				checkSplit(t, from, to, of(holder, slices.Repeat([]int{to.Prime - 1}, count)...), slices.Repeat([]int{to.Prime - 1}, n))
			}
		}
	}
	for _, need := range []int{1, 2, 16} {
		checkSplit(t, plan(api.Prime, 2, 3), plan(api.Prime, need, 16), of(3, spread(api.Prime, api.MaxElements, 3)...), spread(api.Prime, api.MaxElements*(need-1), 4))
	}
}

func TestSplitExamples(t *testing.T) {
	for i, x := range []struct {
		from, to api.Plan
		s        api.Share
		random   []int
		want     []api.Share
	}{
		{plan(7, 2, 3), plan(7, 2, 4), of(3, 6), []int{3}, column(2, 5, 1, 4)},
		{plan(7, 2, 3), plan(7, 3, 5), of(1, 4), []int{1, 2}, column(0, 0, 4, 5, 3)},
		{plan(7, 2, 3), plan(7, 2, 2), of(2, 5, 1), []int{3, 1}, []api.Share{of(1, 1, 2), of(2, 4, 3)}},
		{plan(7, 2, 3), plan(7, 1, 2), of(2, 5, 1), nil, []api.Share{of(1, 5, 1), of(2, 5, 1)}},
		{plan(7, 1, 1), plan(7, 6, 6), of(1), nil, []api.Share{of(1), of(2), of(3), of(4), of(5), of(6)}},
		{plan(7, 2, 6), plan(7, 1, 1), of(6, 0, 6), nil, []api.Share{of(1, 0, 6)}},
	} {
		if l, e := Split(x.from, x.to, x.s, x.random); e != api.OK || !same(l, x.want) {
			t.Error("Split", i, l, e)
		}
	}
}

func TestSplitErrors(t *testing.T) {
	from, to := plan(7, 2, 4), plan(7, 2, 3)
	full, many := make([]int, api.MaxElements), make([]int, api.MaxElements+1)
	for i, x := range []struct {
		from, to api.Plan
		s        api.Share
		random   []int
		want     api.Errno
	}{
		{from, to, of(0, 1), []int{1}, api.ErrInvalid}, {from, to, of(5, 1), []int{1}, api.ErrInvalid}, {from, to, of(-1, 1), []int{1}, api.ErrInvalid}, {from, to, of(math.MinInt), nil, api.ErrInvalid}, {from, to, of(math.MaxInt), nil, api.ErrInvalid}, {from, to, api.Share{}, nil, api.ErrInvalid},
		{from, to, of(1, 7), []int{1}, api.ErrInvalid}, {from, to, of(1, -1), []int{1}, api.ErrInvalid}, {from, to, of(1, 0, 0, 7), []int{1, 1, 1}, api.ErrInvalid}, {from, to, of(1, math.MaxInt, 0), []int{1, 1}, api.ErrInvalid}, {from, to, of(1, math.MinInt), []int{1}, api.ErrInvalid}, {plan(api.Prime, 1, 1), plan(api.Prime, 1, 1), of(1, api.Prime), nil, api.ErrInvalid},
		{from, to, of(5, many...), nil, api.ErrInvalid}, {from, to, of(1, append(slices.Clone(many), 7)...), nil, api.ErrInvalid}, {from, to, of(0, 1), []int{7}, api.ErrInvalid}, {from, to, of(1, 7), nil, api.ErrInvalid}, {plan(8, 2, 4), to, of(1, many...), []int{7}, api.ErrInvalid},
		{from, plan(7, 4, 4), of(5, 1), []int{1, 1, 1}, api.ErrInvalid}, {plan(7, 2, 3), from, of(4, 1), []int{1}, api.ErrInvalid}, {plan(7, 2, 3), from, of(3, 1), []int{1}, api.OK}, {from, to, of(4, 1), []int{1}, api.OK},
		{from, to, of(1, many...), many, api.ErrLimit}, {from, to, of(1, many...), nil, api.ErrLimit}, {from, to, of(1, many...), []int{7}, api.ErrLimit}, {from, plan(7, 1, 3), of(4, many...), nil, api.ErrLimit}, {from, to, of(4, full...), full, api.OK}, {from, plan(7, 1, 3), of(4, full...), nil, api.OK},
		{from, to, of(1, 1), []int{7}, api.ErrRange}, {from, to, of(1, 1), []int{-1}, api.ErrRange}, {from, to, of(1, 1, 1), []int{0, math.MaxInt}, api.ErrRange}, {from, to, of(1, 1, 1), []int{math.MinInt, 0}, api.ErrRange},
		{from, to, of(1, 1), nil, api.ErrRange}, {from, to, of(1, 1), []int{1, 1}, api.ErrRange}, {from, to, of(1), []int{1}, api.ErrRange}, {from, plan(7, 1, 3), of(1, 1), []int{1}, api.ErrRange}, {from, plan(7, 3, 3), of(1, 1, 1), []int{1, 1, 1}, api.ErrRange}, {from, plan(7, 3, 3), of(1, 1, 1), []int{1, 1, 1, 1}, api.OK}, {plan(7, 3, 4), to, of(1, 1), []int{1, 1}, api.ErrRange}, {from, to, of(1, full...), many, api.ErrRange},
	} {
		if l, e := Split(x.from, x.to, x.s, x.random); e != x.want || e != api.OK && len(l) > 0 {
			t.Error("Split", i, len(l), e)
		}
	}
	for _, x := range unrelated() {
		for _, s := range []api.Share{of(1), of(1, 0), of(0, 1), of(1, many...)} {
			if l, e := Split(x[0], x[1], s, nil); e != api.ErrInvalid || len(l) > 0 {
				t.Error("Split", x, s.Holder, len(s.Values), l, e)
			}
		}
	}
}

// P9.1: Join

func checkJoin(t *testing.T, from, to api.Plan, holders []int, l []api.Share) {
	want := of(l[0].Holder, weighed(to.Prime, weightsOf(to.Prime, holders), valuesOf(l))...)
	if s, e := Join(from, to, holders, l); e != api.OK || !same([]api.Share{s}, []api.Share{want}) {
		t.Error("Join", from, to, holders, l, s, want, e)
	}
}

// All parts, of Need holders and of more, in each order.
func TestJoinOfAllSmall(t *testing.T) {
	for _, p := range []int{2, 3, 5} {
		for _, from := range smallPlans(p) {
			for count := from.Need; count <= min(from.Holders, 3); count++ {
				for holders := range orders(from.Holders, count) {
					for values := range lists(p, count) {
						checkJoin(t, from, plan(p, 1, p-1), holders, parts(p-1, values...))
					}
				}
			}
		}
	}
}

// The parts are weighed as the values at 0 of the polynomial through them.
func TestJoinGivesTheValueAtZero(t *testing.T) {
	from, to := plan(5, 2, 4), plan(5, 2, 3)
	for count := 2; count <= 4; count++ {
		for f := range lists(5, count) {
			for holders := range orders(4, count) {
				var l []api.Share
				for _, h := range holders {
					l = append(l, of(3, exact(5, f, h)))
				}
				if s, e := Join(from, to, holders, l); e != api.OK || s.Holder != 3 || !slices.Equal(s.Values, f[:1]) {
					t.Error("Join", f, holders, s, e)
				}
			}
		}
	}
}

func TestJoinOfGreat(t *testing.T) {
	for from, to := range pairs() {
		for count := from.Need; count <= from.Holders; count++ {
			ascending := make([]int, count)
			for i := range ascending {
				ascending[i] = i + 1
			}
			descending, most := make([]int, count), []api.Share{}
			var l []api.Share
			for i := range descending {
				descending[i] = from.Holders - i
				l = append(l, of(to.Holders, spread(to.Prime, 3, i)...))
				most = append(most, of(1, to.Prime-1, to.Prime-1))
			}
			checkJoin(t, from, to, ascending, l)
			checkJoin(t, from, to, descending, l)
			checkJoin(t, from, to, descending, most)
		}
	}
	long := api.MaxElements + 3 // no limit of values is named
	checkJoin(t, plan(api.Prime, 2, 3), plan(api.Prime, 2, 5), []int{3, 1}, []api.Share{of(5, spread(api.Prime, long, 5)...), of(5, spread(api.Prime, long, 6)...)})
}

func TestJoinExamples(t *testing.T) {
	for i, x := range []struct {
		from, to api.Plan
		holders  []int
		l        []api.Share
		want     api.Share
	}{
		{plan(7, 2, 3), plan(7, 3, 5), []int{1, 2}, parts(5, 3, 1), of(5, 5)}, // weights 2 and 6
		{plan(7, 2, 3), plan(7, 3, 5), []int{2, 1}, parts(5, 3, 1), of(5, 6)},
		{plan(7, 2, 3), plan(7, 1, 1), []int{1, 3}, []api.Share{of(1, 1, 0), of(1, 0, 1)}, of(1, 5, 3)},
		{plan(7, 2, 3), plan(7, 1, 1), []int{1, 2, 3}, []api.Share{of(1, 1, 0, 0), of(1, 0, 1, 0), of(1, 0, 0, 1)}, of(1, 3, 4, 1)},
		{plan(7, 1, 3), plan(7, 2, 2), []int{3}, parts(2, 6), of(2, 6)},
		{plan(7, 1, 3), plan(7, 2, 2), []int{3}, []api.Share{of(2)}, of(2)},
		{plan(2, 1, 1), plan(2, 1, 1), []int{1}, parts(1, 1), of(1, 1)},
	} {
		if s, e := Join(x.from, x.to, x.holders, x.l); e != api.OK || !same([]api.Share{s}, []api.Share{x.want}) {
			t.Error("Join", i, s, e)
		}
	}
}

func TestJoinErrors(t *testing.T) {
	from, to := plan(7, 2, 4), plan(7, 3, 5)
	two, one := parts(4, 1, 2), parts(4, 1)
	for i, x := range []struct {
		from, to api.Plan
		holders  []int
		l        []api.Share
		want     api.Errno
	}{
		{from, to, []int{1, 1}, two, api.ErrInvalid}, {from, to, []int{4, 2, 4}, parts(4, 1, 2, 3), api.ErrInvalid}, {from, to, []int{1, 2, 3, 4, 1}, parts(4, 1, 2, 3, 4, 5), api.ErrInvalid}, {from, to, []int{1, 2, 2}, parts(4, 1, 2, 3), api.ErrInvalid},
		{from, to, []int{0, 1}, two, api.ErrInvalid}, {from, to, []int{1, 0}, two, api.ErrInvalid}, {from, to, []int{1, 5}, two, api.ErrInvalid}, {from, to, []int{5, 1}, two, api.ErrInvalid}, {from, to, []int{1, -1}, two, api.ErrInvalid}, {from, to, []int{1, 17}, two, api.ErrInvalid}, {from, to, []int{math.MinInt, 1}, two, api.ErrInvalid}, {from, to, []int{1, math.MaxInt}, two, api.ErrInvalid}, {from, to, []int{1, 8}, two, api.ErrInvalid},
		{from, to, []int{1, 2, 3}, two, api.ErrInvalid}, {from, to, []int{1, 2}, parts(4, 1, 2, 3), api.ErrInvalid}, {from, to, []int{1, 2}, nil, api.ErrInvalid}, {from, to, nil, two, api.ErrInvalid}, {from, to, []int{1, 2}, one, api.ErrInvalid}, {from, to, []int{1}, two, api.ErrInvalid},
		{from, to, []int{1, 2}, []api.Share{of(4, 1), of(3, 1)}, api.ErrInvalid}, {from, to, []int{1, 2, 3}, []api.Share{of(4, 1), of(4, 1), of(5, 1)}, api.ErrInvalid}, {from, to, []int{1, 2}, []api.Share{of(4, 1), of(4, 1, 2)}, api.ErrInvalid}, {from, to, []int{1, 2}, []api.Share{of(4, 1, 2), of(4, 1)}, api.ErrInvalid}, {from, to, []int{1, 2}, []api.Share{of(4), of(4, 1)}, api.ErrInvalid}, {from, to, []int{1, 2, 3}, []api.Share{of(4, 1), of(4, 1), of(4)}, api.ErrInvalid},
		{from, to, []int{1, 2}, parts(6, 1, 2), api.ErrInvalid}, {from, to, []int{1, 2}, parts(0, 1, 2), api.ErrInvalid}, {from, to, []int{1, 2}, parts(-1, 1, 2), api.ErrInvalid}, {from, to, []int{1, 2}, []api.Share{{}, {}}, api.ErrInvalid}, {from, to, []int{1, 2}, parts(math.MaxInt, 1, 2), api.ErrInvalid},
		{from, to, []int{1, 2}, parts(4, 1, 7), api.ErrInvalid}, {from, to, []int{1, 2}, parts(4, 7, 1), api.ErrInvalid}, {from, to, []int{1, 2}, parts(4, -1, 1), api.ErrInvalid}, {from, to, []int{1, 2, 3}, parts(4, 1, 1, 8), api.ErrInvalid}, {from, to, []int{1, 2}, []api.Share{of(4, 1, 1), of(4, 1, math.MinInt)}, api.ErrInvalid},
		{from, plan(7, 1, 3), []int{1, 2}, two, api.ErrInvalid}, {plan(7, 2, 2), to, []int{3, 1}, two, api.ErrInvalid}, {from, plan(7, 1, 4), []int{1, 2}, two, api.OK}, {plan(7, 2, 3), to, []int{3, 1}, two, api.OK},
		{from, to, []int{0}, one, api.ErrInvalid}, {from, to, []int{5}, one, api.ErrInvalid}, {from, to, []int{1}, parts(6, 1), api.ErrInvalid}, {from, to, []int{1}, parts(4, 7), api.ErrInvalid}, {plan(7, 3, 4), to, []int{2, 2}, two, api.ErrInvalid}, {from, to, nil, one, api.ErrInvalid}, {from, to, []int{1}, nil, api.ErrInvalid},
		{from, to, []int{2}, one, api.ErrMissing}, {from, to, nil, nil, api.ErrMissing}, {plan(7, 3, 4), to, []int{2, 1}, two, api.ErrMissing}, {plan(7, 3, 4), plan(7, 1, 4), []int{2, 1}, two, api.ErrMissing}, {plan(7, 1, 4), to, nil, nil, api.ErrMissing}, {plan(7, 4, 4), to, []int{4, 3, 2}, parts(5, 1, 1, 1), api.ErrMissing},
		{from, plan(7, 4, 4), []int{1, 2}, two, api.OK}, {plan(7, 1, 4), to, []int{2}, one, api.OK}, {from, to, []int{3, 1}, two, api.OK}, {from, to, []int{3, 4, 2, 1}, parts(1, 0, 0, 0, 0), api.OK},
	} {
		if s, e := Join(x.from, x.to, x.holders, x.l); e != x.want || e != api.OK && (s.Holder != 0 || len(s.Values) > 0) {
			t.Error("Join", i, s, e)
		}
	}
	for _, x := range unrelated() {
		for count := range 3 {
			l := slices.Repeat([]api.Share{of(1, 0)}, count)
			if s, e := Join(x[0], x[1], []int{1, 2}[:count], l); e != api.ErrInvalid || s.Holder != 0 || len(s.Values) > 0 {
				t.Error("Join", x, count, s, e)
			}
		}
	}
}

// P9.2: Move

// movedOf are the new shares by the definition: as the same weights go with the values and with the random numbers, they are what is dealt of the sums of both.
func movedOf(from, to api.Plan, l []api.Share, random [][]int) []api.Share {
	l, random = l[:from.Need], random[:from.Need]
	weights := weightsOf(to.Prime, holdersOf(l))
	return dealt(to, weighed(to.Prime, weights, valuesOf(l)), weighed(to.Prime, weights, random))
}

func checkMoved(t *testing.T, from, to api.Plan, l []api.Share, random [][]int) {
	if got, e := Move(from, to, l, random); e != api.OK || !same(got, movedOf(from, to, l, random)) {
		t.Error("Move", from, to, l, random, got, e)
	}
}

// The values may be any ones: whether the shares fit is not asked.
func TestMoveOfAllSmall(t *testing.T) {
	for _, p := range []int{2, 3} {
		for _, from := range smallPlans(p) {
			for _, to := range smallPlans(p) {
				for count := from.Need; count <= from.Holders; count++ {
					for holders := range orders(from.Holders, count) {
						for values := range lists(p, count) {
							var l []api.Share
							for i, h := range holders {
								l = append(l, of(h, values[i]))
							}
							for random := range lists(p, from.Need*(to.Need-1)) {
								checkMoved(t, from, to, l, slices.Collect(split(random, from.Need)))
							}
						}
					}
				}
			}
		}
	}
}

// split gives so many parts of a list, of one length.
func split(l []int, count int) iter.Seq[[]int] {
	return func(yield func([]int) bool) {
		n := len(l) / count
		for i := range count {
			if !yield(l[i*n : (i+1)*n]) {
				return
			}
		}
	}
}

func TestMoveOfGreat(t *testing.T) {
	for from, to := range pairs() {
		for _, count := range []int{0, 1, 3} {
			var l []api.Share
			for i := range from.Holders {
				l = append(l, of(i+1, spread(to.Prime, count, i)...))
			}
			random := spreads(to.Prime, from.Need, count*(to.Need-1), 20)
			checkMoved(t, from, to, l, random)
			slices.Reverse(l)
			checkMoved(t, from, to, l, random)
			checkMoved(t, from, to, l[:from.Need], random)
		}
	}
	for _, to := range []api.Plan{plan(api.Prime, 1, 2), plan(api.Prime, 3, 4), plan(api.Prime, 16, 16)} {
		l := []api.Share{of(4, spread(api.Prime, api.MaxElements, 7)...), of(1, spread(api.Prime, api.MaxElements, 8)...), of(2, spread(api.Prime, api.MaxElements, 9)...)}
		checkMoved(t, plan(api.Prime, 2, 4), to, l, spreads(api.Prime, 2, api.MaxElements*(to.Need-1), 10))
	}
}

// Move is what the old holders Split, and each new one Joins.
func TestMoveIsSplitAndJoin(t *testing.T) {
	for from, to := range pairs() {
		l := dealt(from, spread(to.Prime, 2, 1), spread(to.Prime, 2*(from.Need-1), 2))
		slices.Reverse(l)
		random := spreads(to.Prime, from.Need, 2*(to.Need-1), 3)
		var all [][]api.Share
		for i, s := range l[:from.Need] {
			dealt, e := Split(from, to, s, random[i])
			if e != api.OK {
				t.Error("Split", from, to, s, e)
			}
			all = append(all, dealt)
		}
		var want []api.Share
		for k := range to.Holders {
			var got []api.Share
			for i := range all {
				got = append(got, all[i][k])
			}
			s, e := Join(from, to, holdersOf(l[:from.Need]), got)
			if e != api.OK {
				t.Error("Join", from, to, got, e)
			}
			want = append(want, s)
		}
		if got, e := Move(from, to, l, random); e != api.OK || !same(got, want) {
			t.Error("Move", from, to, got, want, e)
		}
	}
}

// Only the first Need shares and lists count, though all shares have to be good.
func TestMoveOfTheFirst(t *testing.T) {
	from, to := plan(7, 2, 4), plan(7, 2, 3)
	random := [][]int{{1}, {2}}
	want, _ := Move(from, to, []api.Share{of(3, 6), of(1, 4)}, random)
	for i, l := range [][]api.Share{{of(3, 6), of(1, 4), of(2, 5)}, {of(3, 6), of(1, 4), of(2, 0)}, {of(3, 6), of(1, 4), of(4, 3), of(2, 6)}} {
		for k, random := range [][][]int{random, {{1}, {2}, nil}, {{1}, {2}, {7}}, {{1}, {2}, {1, 1, -1}, nil, {8}}} {
			if got, e := Move(from, to, l, random); e != api.OK || len(got) != 3 || !same(got, want) {
				t.Error("Move", i, k, got, e)
			}
		}
	}
}

func TestMoveExamples(t *testing.T) {
	three := column(4, 5, 6) // of the secret 3
	for i, x := range []struct {
		from, to api.Plan
		l        []api.Share
		random   [][]int
		want     []api.Share
	}{
		{plan(7, 2, 3), plan(7, 3, 5), three, [][]int{{1, 2}, {3, 4}}, column(2, 1, 0, 6, 5)}, // 3 + 6x + 0
		{plan(7, 2, 3), plan(7, 3, 5), three[1:], [][]int{{0, 0}, {0, 1}}, column(1, 2, 6, 6, 2)},
		{plan(7, 2, 3), plan(7, 1, 2), three, [][]int{nil, nil}, column(3, 3)},
		{plan(7, 1, 3), plan(7, 2, 2), column(3, 3, 3), [][]int{{1}}, column(4, 5)},
		{plan(7, 2, 3), plan(7, 2, 3), three, [][]int{{0}, {0}}, column(3, 3, 3)},
		{plan(7, 2, 3), plan(7, 2, 2), []api.Share{of(3), of(1)}, [][]int{nil, nil}, []api.Share{of(1), of(2)}},
	} {
		if l, e := Move(x.from, x.to, x.l, x.random); e != api.OK || !same(l, x.want) {
			t.Error("Move", i, l, e)
		}
	}
}

// notGood are lists that are not good in plan(7, 2, 4), with and without Need shares.
func notGood() [][]api.Share {
	many := make([]int, api.MaxElements+1)
	return [][]api.Share{
		{of(0)}, {of(5)}, {of(-1)}, {of(0, 1)}, {of(7, 1)}, {of(math.MinInt)}, {of(math.MaxInt)}, {{}}, {of(1, 7)}, {of(1, -1)}, {of(1, 0, 0, 7)},
		{of(1, 1), of(2, 7)}, {of(1, 7), of(2, 1)}, {of(1, 1), of(5, 1)}, {of(0, 1), of(1, 1)}, {of(1, 1), of(2, 1), of(3, -1)}, {of(1, 1), of(2, 1), of(0, 1)}, {of(1, 1), of(2, 1), of(5, 1)},
		{of(1, 1), of(1, 1)}, {of(1), of(1)}, {of(4, 1), of(2, 1), of(3, 1), of(4, 1)}, {of(1, 1), of(2, 1), of(3, 1), of(4, 1), of(1, 1)},
		{of(1, 1), of(2)}, {of(1), of(2, 1)}, {of(1, 1), of(2, 1), of(3)}, {of(1, 1), of(2, 1), of(3, 1, 1)},
		{of(1, many...)}, {of(1, many...), of(2, many...)}, {of(1, 1), of(2, many...)},
	}
}

func TestMoveErrors(t *testing.T) {
	from, to, l := plan(7, 2, 4), plan(7, 3, 5), column(1, 2, 3, 4)
	random, short := [][]int{{1, 2}, {3, 4}}, [][]int{{1, 2}}
	eight, five := plan(8, 1, 1), plan(5, 1, 1)
	for i, x := range []struct {
		from, to api.Plan
		l        []api.Share
		random   [][]int
		want     api.Errno
	}{
		{plan(8, 2, 4), to, l, random, api.ErrInvalid}, {plan(7, 5, 4), to, l, random, api.ErrInvalid}, {plan(7, 2, 3), to, l, random, api.ErrInvalid}, {plan(7, 2, 7), plan(8, 1, 1), nil, nil, api.ErrInvalid}, {plan(5, 2, 4), to, l, random, api.ErrInvalid},
		{from, to, l[:1], random, api.ErrMissing}, {from, to, nil, random, api.ErrMissing}, {plan(7, 1, 4), to, nil, random, api.ErrMissing}, {plan(7, 4, 4), to, l[1:], random, api.ErrMissing}, {from, eight, l[:1], random, api.ErrMissing}, {from, five, nil, random, api.ErrMissing}, {from, api.Plan{}, l[2:3], nil, api.ErrMissing}, {from, to, l[:1], [][]int{{7}}, api.ErrMissing},
		{from, eight, l, random, api.ErrInvalid}, {from, five, l, random, api.ErrInvalid}, {from, plan(7, 6, 5), l, random, api.ErrInvalid}, {from, plan(7, 0, 5), l, random, api.ErrInvalid}, {from, plan(7, 3, 7), l, random, api.ErrInvalid}, {from, api.Plan{}, l, nil, api.ErrInvalid}, {from, plan(11, 3, 5), l, short, api.ErrInvalid}, {from, plan(7, 3, 2), l, [][]int{{7}, nil}, api.ErrInvalid},
		{from, to, l, short, api.ErrMissing}, {from, to, l, nil, api.ErrMissing}, {from, to, l[2:], short, api.ErrMissing}, {from, to, l, [][]int{{1, 7}}, api.ErrMissing}, {from, to, l, [][]int{nil}, api.ErrMissing}, {plan(7, 4, 4), to, l, [][]int{{1, 2}, {1, 2}, {1, 2}}, api.ErrMissing}, {plan(7, 1, 4), to, l, nil, api.ErrMissing}, {plan(7, 1, 4), to, l, short, api.OK},
		{from, to, l, [][]int{{1, 2}, {3, 7}}, api.ErrRange}, {from, to, l, [][]int{{-1, 2}, {3, 4}}, api.ErrRange}, {from, to, l, [][]int{{1, 2}, {3}}, api.ErrRange}, {from, to, l, [][]int{nil, {3, 4}}, api.ErrRange}, {from, to, l, [][]int{{1, 2}, {3, 4, 5}}, api.ErrRange}, {from, to, l, [][]int{{1, 2, 3}, {3, 4}}, api.ErrRange}, {from, plan(7, 1, 5), l, [][]int{nil, {1}}, api.ErrRange}, {from, plan(7, 1, 5), l, [][]int{nil, {}}, api.OK}, {from, to, []api.Share{of(1), of(2)}, random, api.ErrRange},
		{from, to, l, random, api.OK}, {from, to, l[2:], random, api.OK}, {from, to, l, [][]int{{1, 2}, {3, 4}, {7}}, api.OK},
	} {
		if got, e := Move(x.from, x.to, x.l, x.random); e != x.want || e != api.OK && len(got) > 0 || e == api.OK && len(got) != x.to.Holders {
			t.Error("Move", i, got, e)
		}
	}
	for i, bad := range notGood() {
		for _, x := range []api.Plan{to, eight, five} {
			for _, random := range [][][]int{random, nil} {
				if got, e := Move(from, x, bad, random); e != api.ErrInvalid || len(got) > 0 {
					t.Error("Move", i, x, got, e)
				}
			}
		}
	}
	for _, x := range unrelated() {
		if got, e := Move(x[0], x[1], []api.Share{of(1, 0)}, [][]int{nil}); e != api.ErrInvalid || len(got) > 0 {
			t.Error("Move", x, got, e)
		}
		if got, e := Move(x[0], x[1], []api.Share{of(1, 0)}, nil); e != api.ErrInvalid || len(got) > 0 {
			t.Error("Move", x, got, e)
		}
	}
}

// Consequences: the new shares fit the new plan, and give the same secret, whichever Need of the old holders let others take over.
func TestAnyOfTheOldHoldersLetOthersTakeOver(t *testing.T) {
	for _, p := range []int{3, 5} {
		for _, from := range smallPlans(p) {
			for _, to := range smallPlans(p) {
				for secret := range p {
					l := dealt(from, []int{secret, 1}, spread(p, 2*(from.Need-1), secret))
					random := spreads(p, from.Need, 2*(to.Need-1), secret+7)
					for old := range orders(from.Holders, from.Need) {
						moved, e := Move(from, to, at(l, old), random)
						if e != api.OK || len(moved) != to.Holders || !share.Fits(to, moved) {
							t.Error("Move", from, to, old, moved, e)
						}
						for new := range orders(to.Holders, to.Need) {
							if got, e := share.Combine(to, at(moved, new)); e != api.OK || !slices.Equal(got, []int{secret, 1}) {
								t.Error("another secret", from, to, old, new, got, e)
							}
						}
					}
				}
			}
		}
	}
}

func TestMovedSharesOfGreatFit(t *testing.T) {
	for from, to := range pairs() {
		secret := spread(to.Prime, 4, 11)
		l := dealt(from, secret, spread(to.Prime, 4*(from.Need-1), 12))
		for first := 0; first+from.Need <= from.Holders; first++ {
			moved, e := Move(from, to, l[first:], spreads(to.Prime, from.Need, 4*(to.Need-1), 13))
			if e != api.OK || len(moved) != to.Holders || !share.Fits(to, moved) {
				t.Error("Move", from, to, moved, e)
			}
			for last := to.Need; last <= to.Holders; last++ {
				if got, e := share.Combine(to, moved[last-to.Need:]); e != api.OK || !slices.Equal(got, secret) {
					t.Error("another secret", from, to, first, last, got, e)
				}
			}
		}
	}
}

// More than Need of the old holders may give parts, too, and the shares move on from one plan to the next.
func TestMoreHoldersGiveParts(t *testing.T) {
	from, to, secret := plan(31, 2, 5), plan(31, 3, 4), []int{9, 30}
	l := dealt(from, secret, []int{4, 17})
	for count := 2; count <= 5; count++ {
		for old := range orders(5, count) {
			var moved []api.Share
			for k := range 4 {
				var got []api.Share
				for i, s := range at(l, old) {
					dealt, _ := Split(from, to, s, spread(31, 4, i))
					got = append(got, dealt[k])
				}
				s, e := Join(from, to, old, got)
				if e != api.OK || s.Holder != k+1 {
					t.Error("Join", old, got, s, e)
				}
				moved = append(moved, s)
			}
			if got, e := share.Combine(to, moved[1:]); e != api.OK || !slices.Equal(got, secret) || !share.Fits(to, moved) {
				t.Error("another secret", old, got, e)
			}
		}
	}
	for i, next := range []api.Plan{to, plan(31, 1, 1), plan(31, 16, 16), from, plan(31, 7, 9)} {
		moved, e := Move(from, next, l, spreads(31, from.Need, 2*(next.Need-1), i))
		if got, _ := share.Combine(next, moved); e != api.OK || !slices.Equal(got, secret) {
			t.Error("Move", from, next, got, e)
		}
		from, l = next, moved
	}
}

// The example: from 2 of 3 to 3 of 5, two old holders give five parts each.
func TestFromTwoOfThreeToThreeOfFive(t *testing.T) {
	from, to := plan(api.Prime, 2, 3), plan(api.Prime, 3, 5)
	l, _ := share.Deal(from, []int{1234567}, []int{89})
	first, e := Split(from, to, l[2], []int{5, 6})
	second, f := Split(from, to, l[0], []int{7, 8})
	if e != api.OK || f != api.OK || len(first) != 5 || len(second) != 5 {
		t.Error("Split", first, second, e, f)
	}
	var moved []api.Share
	for k := range 5 {
		s, e := Join(from, to, []int{3, 1}, []api.Share{first[k], second[k]})
		if e != api.OK || s.Holder != k+1 {
			t.Error("Join", s, e)
		}
		moved = append(moved, s)
	}
	if got, e := share.Combine(to, moved[2:]); e != api.OK || !slices.Equal(got, []int{1234567}) || !share.Fits(to, moved) {
		t.Error("Combine", got, e)
	}
	if _, e := share.Combine(to, moved[:2]); e != api.ErrMissing {
		t.Error("two of the new holders are enough", e)
	}
	if got, e := Move(from, to, []api.Share{l[2], l[0]}, [][]int{{5, 6}, {7, 8}}); e != api.OK || !same(got, moved) {
		t.Error("Move", got, e)
	}
}

// P1 and the rules of memory

// made are the values of all results for these arguments.
func made(to api.Plan, l []api.Share, holders []int, random [][]int) [][]int {
	from := plan(7, 2, 3)
	split, _ := Split(from, to, l[0], random[0])
	moved, _ := Move(from, to, l[:2], random)
	joined, _ := Join(from, to, holders, l[2:4])
	alone, _ := Join(plan(7, 1, 3), to, holders[:1], l[2:3])
	values := append(valuesOf(split), valuesOf(moved)...)
	return append(values, joined.Values, alone.Values)
}

func TestMemory(t *testing.T) {
	store := []int{1, 2, 3, 4, 3, 2, 5, 6, 77, 78}
	l := []api.Share{{Holder: 3, Values: store[:2]}, {Holder: 1, Values: store[2:4]}, {Holder: 2, Values: store[4:6]}, {Holder: 2, Values: store[6:8]}, {Holder: 99, Values: store[8:]}}
	numbers, holders := []int{1, 2, 3, 4, 77}, []int{1, 2, 99}
	random := [][]int{numbers[:2], numbers[2:4], nil, {99}}
	before, to := slices.Clone(store), plan(7, 2, 2)
	results := made(to, l, holders[:2], random[:2])
	if !slices.EqualFunc(results, made(to, l, holders[:2], random[:2]), slices.Equal[[]int]) {
		t.Error("two calls have different results")
	}
	want := [][]int{{2, 4}, {3, 6}, {1, 3}, {5, 1}, {1, 5}, {3, 2}}
	if !slices.EqualFunc(results, want, slices.Equal[[]int]) {
		t.Error("the results are other ones", results)
	}
	for i, x := range results { // a result may be written to, with all of its memory, and only it changes
		others := slices.Concat(slices.Concat(results[:i]...), slices.Concat(results[i+1:]...))
		x = x[:cap(x)]
		for k := range x {
			x[k] = 99 + i
		}
		if now := slices.Concat(slices.Concat(results[:i]...), slices.Concat(results[i+1:]...)); !slices.Equal(now, others) {
			t.Error("results share memory", i)
		}
	}
	if moved, e := Move(plan(7, 2, 3), to, l[:2], random[:2]); e == api.OK {
		moved = moved[:cap(moved)]
		for i := range moved {
			moved[i].Holder = 50
		}
	}
	if !slices.Equal(store, before) || !slices.Equal(numbers, []int{1, 2, 3, 4, 77}) || !slices.Equal(holders, []int{1, 2, 99}) {
		t.Error("an argument was changed", store, numbers, holders)
	}
	for i, s := range l {
		if s.Holder != []int{3, 1, 2, 2, 99}[i] || len(s.Values) != 2 {
			t.Error("an argument was changed", l)
		}
	}
	for i, x := range random {
		if len(x) != []int{2, 2, 0, 1}[i] || i == 3 && x[0] != 99 {
			t.Error("an argument was changed", random)
		}
	}
}

func TestNilIsEmpty(t *testing.T) {
	from, to := plan(7, 2, 2), plan(7, 3, 3)
	want := []api.Share{of(1), of(2), of(3)}
	for _, x := range [][]int{nil, {}} {
		for _, y := range [][]int{nil, {}} {
			if l, e := Split(from, to, api.Share{Holder: 2, Values: x}, y); e != api.OK || !same(l, want) {
				t.Error("nil and empty", l, e)
			}
			if l, e := Move(from, to, []api.Share{{Holder: 2, Values: x}, {Holder: 1, Values: y}}, [][]int{y, x}); e != api.OK || !same(l, want) {
				t.Error("nil and empty", l, e)
			}
			if s, e := Join(from, to, []int{2, 1}, []api.Share{{Holder: 3, Values: x}, {Holder: 3, Values: y}}); e != api.OK || s.Holder != 3 || len(s.Values) > 0 {
				t.Error("nil and empty", s, e)
			}
			if l, e := Split(from, to, of(2, 1), x); e != api.ErrRange || len(l) > 0 {
				t.Error("nil and empty", l, e)
			}
		}
		for _, l := range [][]api.Share{nil, {}} {
			if s, e := Join(from, to, x, l); e != api.ErrMissing || s.Holder != 0 || len(s.Values) > 0 {
				t.Error("nil and empty", s, e)
			}
		}
	}
	for _, random := range [][][]int{nil, {}} {
		for _, l := range [][]api.Share{nil, {}, column(1, 2)} {
			if got, e := Move(from, to, l, random); e != api.ErrMissing || len(got) > 0 {
				t.Error("nil and empty", got, e)
			}
		}
	}
}

// strange are numbers that are no permitted primes, no elements, no holders, or lead to sums that do not fit.
var strange = []int{math.MinInt, -1 << 32, -1, 0, 1, 2, 3, 7, 16, 17, api.MaxElements, api.Prime, api.MaxPrime, 1 << 62, math.MaxInt}

func TestNothingPanics(t *testing.T) {
	from := plan(7, 2, 3)
	for _, p := range strange {
		for _, need := range strange {
			for _, holders := range strange {
				pl := plan(p, need, holders)
				for _, x := range strange {
					l := []api.Share{of(1, x), of(x, 1), of(2, x), of(2, strange...), {Holder: x}}
					for i, s := range l {
						for _, y := range [][2]api.Plan{{pl, from}, {from, pl}, {pl, pl}} {
							Split(y[0], y[1], s, []int{x})
							Join(y[0], y[1], strange[:len(l)-i], l[i:])
							Join(y[0], y[1], []int{x}, l[i:i+1])
							Move(y[0], y[1], l[i:], [][]int{nil, {x}, strange})
						}
					}
				}
			}
		}
	}
}
