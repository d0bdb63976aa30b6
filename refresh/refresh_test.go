package refresh

import (
	"iter"
	"math"
	"slices"
	"testing"

	"reportescrow/api"
	"reportescrow/share"
)

// great are primes for which products come near 2^60.
var great = []int{65537, api.Prime, 1073741783, 1073741789}

func plan(p, need, holders int) api.Plan {
	return api.Plan{Prime: p, Need: need, Holders: holders}
}

func of(holder int, values ...int) api.Share { return api.Share{Holder: holder, Values: values} }

func same(a, b []api.Share) bool {
	return slices.EqualFunc(a, b, func(x, y api.Share) bool { return x.Holder == y.Holder && slices.Equal(x.Values, y.Values) })
}

// lists gives all lists of so many numbers from 0 to p - 1.
func lists(p, length int) iter.Seq[[]int] {
	return func(yield func([]int) bool) {
		count := 1
		for range length {
			count *= p
		}
		for n := range count {
			l := make([]int, length)
			for i := range l {
				l[i] = n % p
				n /= p
			}
			if !yield(l) {
				return
			}
		}
	}
}

// orders gives all lists of so many different holders out of 1 to most, in each order.
func orders(most, length int) iter.Seq[[]int] {
	return func(yield func([]int) bool) {
		for l := range lists(most, length) {
			for i := range l {
				l[i]++
			}
			sorted := slices.Sorted(slices.Values(l))
			if len(slices.Compact(sorted)) == length && !yield(l) {
				return
			}
		}
	}
}

// spread are so many elements of the field of p without an order.
func spread(p, length, seed int) []int {
	l := make([]int, length)
	for i := range l {
		l[i] = int(uint64(seed*100000+i+1) * 0x9E3779B97F4A7C15 >> 3 % uint64(p))
	}
	return l
}

// exact is the value of a polynomial at x. All numbers are less than 2^30, so that none here is too great.
func exact(p int, f []int, x int) int {
	sum := 0
	for _, c := range slices.Backward(f) {
		sum = (sum*x + c) % p
	}
	return sum
}

// dealt are the shares by the definition.
func dealt(pl api.Plan, secret, random []int) []api.Share {
	var l []api.Share
	for holder := 1; holder <= pl.Holders; holder++ {
		s := of(holder)
		for i, x := range secret {
			f := append([]int{x}, random[i*(pl.Need-1):(i+1)*(pl.Need-1)]...)
			s.Values = append(s.Values, exact(pl.Prime, f, holder))
		}
		l = append(l, s)
	}
	return l
}

// sumOf are the sums by the definition: for each share of l, with the one share of its holder in the other list.
func sumOf(p int, l, other []api.Share) []api.Share {
	var sums []api.Share
	for _, s := range l {
		for _, z := range other {
			if s.Holder == z.Holder {
				sum := of(s.Holder)
				for i := range s.Values {
					sum.Values = append(sum.Values, (s.Values[i]+z.Values[i])%p)
				}
				sums = append(sums, sum)
			}
		}
	}
	return sums
}

func at(l []api.Share, holders []int) []api.Share {
	var chosen []api.Share
	for _, h := range holders {
		chosen = append(chosen, l[h-1])
	}
	return chosen
}

// column are the shares of all holders of one element each.
func column(values ...int) []api.Share {
	var l []api.Share
	for i, v := range values {
		l = append(l, of(i+1, v))
	}
	return l
}

func reversed(l []api.Share) []api.Share {
	l = slices.Clone(l)
	slices.Reverse(l)
	return l
}

// smallPlans are plans for which all shares can be tried, with Need from 1 on; greatPlans those with great fields and many holders.
func smallPlans() []api.Plan {
	return []api.Plan{plan(2, 1, 1), plan(3, 1, 1), plan(3, 1, 2), plan(3, 2, 2), plan(5, 1, 3), plan(5, 2, 2), plan(5, 2, 4), plan(5, 3, 3), plan(5, 3, 4), plan(5, 4, 4)}
}

func greatPlans() []api.Plan {
	l := []api.Plan{plan(17, 16, 16), plan(17, 1, 16), plan(17, 9, 16), plan(19, 7, 13)}
	for _, p := range great {
		l = append(l, plan(p, 1, 1), plan(p, 1, 16), plan(p, 2, 3), plan(p, 3, 5), plan(p, 5, 5), plan(p, 8, 15), plan(p, 15, 16), plan(p, 16, 16))
	}
	return l
}

// notValid are plans that are not, each for one reason, and some for more.
func notValid() []api.Plan {
	return []api.Plan{{}, plan(8, 1, 1), plan(1, 1, 1), plan(0, 1, 1), plan(-7, 1, 1), plan(1073741827, 1, 1), plan(7, 0, 3), plan(7, -1, 3), plan(7, 4, 3), plan(7, 1, 7), plan(7, 3, 8), plan(2, 1, 2), plan(7, 0, 0), plan(7, -2, -1), plan(api.Prime, 1, 17), plan(api.Prime, 17, 17), plan(api.Prime, 17, 16), plan(api.Prime, math.MinInt, math.MaxInt), plan(math.MaxInt, 1, 1), plan(math.MinInt, 1, 1), plan(api.Prime, 1, math.MaxInt), plan(api.Prime, math.MinInt, 1)}
}

// notGood are lists that are not good in plan(7, 2, 4), with and without Need shares.
func notGood() [][]api.Share {
	many := make([]int, api.MaxElements+1)
	return [][]api.Share{
		{of(0)}, {of(5)}, {of(-1)}, {of(math.MinInt)}, {of(math.MaxInt)}, {of(0, 1)}, {of(7, 1)}, {of(5, 1)}, {{}},
		{of(1, 7)}, {of(1, -1)}, {of(1, 0, 0, 7)}, {of(1, math.MinInt)}, {of(1, math.MaxInt)},
		{of(1, 1), of(2, 7)}, {of(1, 7), of(2, 1)}, {of(1, 1), of(5, 1)}, {of(0, 1), of(1, 1)}, {of(1, 1), of(2, 1), of(3, -1)}, {of(1, 1), of(2, 1), of(0, 1)}, {of(1, 1), of(2, 1), of(5, 1)},
		{of(1, 1), of(1, 1)}, {of(1, 1), of(1, 2)}, {of(1), of(1)}, {of(4, 1), of(2, 1), of(3, 1), of(4, 1)}, {of(1, 1), of(2, 2), of(3, 3), of(2, 2)}, {of(1, 1), of(2, 1), of(3, 1), of(4, 1), of(1, 1)},
		{of(1, 1), of(2)}, {of(1), of(2, 1)}, {of(1, 1), of(2, 1, 1)}, {of(1, 1, 1), of(2, 1)}, {of(1, 1), of(2, 1), of(3)}, {of(1, 1), of(2, 1), of(3, 1, 1)}, {of(1, 0), of(2, 0), of(3, 0), of(4)},
		{of(1, many...)}, {of(1, many...), of(2, many...)}, {of(1, 1), of(2, many...)}, {of(1, many...), of(2, 1)},
	}
}

// P8.1: Zero

func checkZero(t *testing.T, pl api.Plan, count int, random []int) {
	want := dealt(pl, make([]int, count), random)
	l, e := Zero(pl, count, random)
	if e != api.OK || !same(l, want) || !Checks(pl, l) {
		t.Error("Zero", pl, count, random, l, e)
	}
	if d, e := share.Deal(pl, make([]int, count), random); e != api.OK || !same(l, d) {
		t.Error("Zero is not share.Deal of zeros", pl, count, random, l, d)
	}
}

func TestZeroOfAllSmall(t *testing.T) {
	for _, pl := range smallPlans() {
		for count := range 3 {
			for random := range lists(pl.Prime, count*(pl.Need-1)) {
				checkZero(t, pl, count, random)
			}
		}
	}
}

func TestZeroOfGreat(t *testing.T) {
	for _, pl := range greatPlans() {
		for _, count := range []int{0, 1, 2, 20} {
			n := count * (pl.Need - 1)
			checkZero(t, pl, count, spread(pl.Prime, n, 1))
			checkZero(t, pl, count, slices.Repeat([]int{pl.Prime - 1}, n))
			checkZero(t, pl, count, make([]int, n))
		}
	}
	for _, need := range []int{1, 2, 16} {
		checkZero(t, plan(api.Prime, need, 16), api.MaxElements, spread(api.Prime, api.MaxElements*(need-1), 2))
	}
}

func TestZeroExamples(t *testing.T) {
	for i, x := range []struct {
		pl     api.Plan
		count  int
		random []int
		want   []api.Share
	}{
		{plan(7, 2, 3), 1, []int{3}, column(3, 6, 2)},
		{plan(7, 2, 3), 2, []int{1, 3}, []api.Share{of(1, 1, 3), of(2, 2, 6), of(3, 3, 2)}},
		{plan(7, 3, 3), 1, []int{1, 2}, column(3, 3, 0)},
		{plan(7, 3, 4), 2, []int{1, 0, 0, 1}, []api.Share{of(1, 1, 1), of(2, 2, 4), of(3, 3, 2), of(4, 4, 2)}},
		{plan(7, 1, 3), 2, nil, []api.Share{of(1, 0, 0), of(2, 0, 0), of(3, 0, 0)}},
		{plan(7, 2, 3), 0, nil, []api.Share{of(1), of(2), of(3)}},
		{plan(2, 1, 1), 1, nil, column(0)},
	} {
		if l, e := Zero(x.pl, x.count, x.random); e != api.OK || !same(l, x.want) {
			t.Error("Zero", i, l, e)
		}
	}
}

func TestZeroErrors(t *testing.T) {
	for i, x := range []struct {
		pl     api.Plan
		count  int
		random []int
		want   api.Errno
	}{
		{plan(7, 2, 7), 1, []int{1}, api.ErrInvalid}, {plan(8, 2, 3), 1, []int{1}, api.ErrInvalid}, {plan(7, 0, 3), 1, nil, api.ErrInvalid}, {plan(7, 4, 3), 1, []int{1, 1, 1}, api.ErrInvalid}, {plan(7, 4, 3), -1, nil, api.ErrInvalid}, {plan(7, 4, 3), api.MaxElements + 1, []int{7}, api.ErrInvalid},
		{plan(7, 2, 3), -1, nil, api.ErrRange}, {plan(7, 1, 3), -1, nil, api.ErrRange}, {plan(7, 2, 3), -1, []int{1}, api.ErrRange}, {plan(7, 2, 3), -1, []int{7}, api.ErrRange}, {plan(7, 2, 3), math.MinInt, nil, api.ErrRange}, {plan(7, 2, 3), -api.MaxElements - 1, nil, api.ErrRange},
		{plan(7, 1, 3), api.MaxElements + 1, nil, api.ErrLimit}, {plan(7, 2, 3), api.MaxElements + 1, make([]int, api.MaxElements+1), api.ErrLimit}, {plan(7, 2, 3), api.MaxElements + 1, nil, api.ErrLimit}, {plan(7, 2, 3), api.MaxElements + 1, []int{-1}, api.ErrLimit}, {plan(7, 2, 3), api.MaxElements + 2, nil, api.ErrLimit},
		{plan(7, 1, 3), math.MaxInt, nil, api.ErrLimit}, {plan(7, 2, 3), 1 << 62, []int{7}, api.ErrLimit}, {plan(7, 3, 3), 1 << 63 >> 1, nil, api.ErrLimit}, {plan(7, 3, 3), 1<<32 + 1, []int{1, 1}, api.ErrLimit},
		{plan(7, 1, 3), api.MaxElements, nil, api.OK}, {plan(7, 2, 3), api.MaxElements, make([]int, api.MaxElements), api.OK},
		{plan(7, 2, 3), 1, []int{7}, api.ErrRange}, {plan(7, 2, 3), 1, []int{-1}, api.ErrRange}, {plan(7, 2, 3), 2, []int{0, math.MaxInt}, api.ErrRange}, {plan(7, 2, 3), 2, []int{math.MinInt, 0}, api.ErrRange}, {plan(api.Prime, 2, 3), 1, []int{api.Prime}, api.ErrRange},
		{plan(7, 2, 3), 1, nil, api.ErrRange}, {plan(7, 2, 3), 1, []int{1, 1}, api.ErrRange}, {plan(7, 1, 3), 1, []int{1}, api.ErrRange}, {plan(7, 2, 3), 0, []int{1}, api.ErrRange}, {plan(7, 3, 3), 2, []int{1, 1, 1}, api.ErrRange}, {plan(7, 2, 3), api.MaxElements, make([]int, api.MaxElements+1), api.ErrRange},
	} {
		if l, e := Zero(x.pl, x.count, x.random); e != x.want || e != api.OK && len(l) > 0 {
			t.Error("Zero", i, len(l), e)
		}
	}
	for _, pl := range notValid() {
		for _, count := range []int{0, 1, -1, math.MinInt, math.MaxInt} {
			if l, e := Zero(pl, count, nil); e != api.ErrInvalid || len(l) > 0 {
				t.Error("Zero", pl, count, l, e)
			}
		}
	}
}

// P8.1: Checks

// isZero tells by trying all polynomials whether the values of all holders are those of one of degree less than Need that is 0 at 0.
func isZero(pl api.Plan, values []int) bool {
	for f := range lists(pl.Prime, pl.Need-1) {
		f = append([]int{0}, f...)
		wrong := false
		for i, v := range values {
			wrong = wrong || exact(pl.Prime, f, i+1) != v
		}
		if !wrong {
			return true
		}
	}
	return false
}

func TestChecksOfAllSmall(t *testing.T) {
	found := map[bool]int{}
	for _, pl := range smallPlans() {
		for values := range lists(pl.Prime, pl.Holders) {
			want := isZero(pl, values)
			found[want]++
			if Checks(pl, column(values...)) != want {
				t.Error("Checks", pl, values, want)
			}
		}
	}
	if found[true] < 100 || found[false] < 100 {
		t.Error("too few of one kind", found)
	}
}

// Each place has to give 0.
func TestChecksOfTwoPlaces(t *testing.T) {
	pl := plan(3, 2, 2)
	for a := range lists(3, 2) {
		for b := range lists(3, 2) {
			l := []api.Share{of(1, a[0], b[0]), of(2, a[1], b[1])}
			if want := isZero(pl, a) && isZero(pl, b); Checks(pl, l) != want {
				t.Error("Checks", l, want)
			}
		}
	}
}

// The list has to be that of all holders, ascending, whichever shares of zeros it has.
func TestChecksAsksForAllHoldersAscending(t *testing.T) {
	for _, pl := range []api.Plan{plan(5, 1, 4), plan(5, 2, 4), plan(5, 3, 4), plan(5, 4, 4)} {
		l := dealt(pl, []int{0, 0}, spread(5, 2*(pl.Need-1), 3))
		for length := range 6 {
			for holders := range lists(4, length) {
				for i := range holders {
					holders[i]++
				}
				if want := slices.Equal(holders, []int{1, 2, 3, 4}); Checks(pl, at(l, holders)) != want {
					t.Error("Checks", pl, holders, want)
				}
			}
		}
		for _, holders := range []int{-1, 0, 1, 2, 3} {
			if other := plan(5, pl.Need, holders); Checks(other, l) {
				t.Error("Checks", other)
			}
		}
		if Checks(plan(7, pl.Need, 5), l) {
			t.Error("Checks", pl)
		}
	}
	for i, holder := range []int{0, -1, 2, 5, 7, math.MinInt, math.MaxInt} {
		for k := range 3 {
			l := column(0, 0, 0)
			l[k].Holder = holder
			if Checks(plan(7, 2, 3), l) != (k == 1 && holder == 2) {
				t.Error("Checks", i, k)
			}
		}
	}
}

func TestChecksOfGreat(t *testing.T) {
	for _, pl := range greatPlans() {
		for _, count := range []int{1, 20} {
			random := spread(pl.Prime, count*(pl.Need-1), 4)
			secret := make([]int, count)
			if !Checks(pl, dealt(pl, secret, random)) {
				t.Error("Checks", pl, count)
			}
			for i := range secret {
				secret[i] = 1 + i%(pl.Prime-1)
				if Checks(pl, dealt(pl, secret, random)) {
					t.Error("Checks", pl, count, i)
				}
				secret[i] = 0
			}
			for k := range pl.Holders { // another value of a holder gives another secret, or does not fit
				l := dealt(pl, secret, random)
				l[k].Values[count-1] = (l[k].Values[count-1] + 1 + k%(pl.Prime-1)) % pl.Prime
				if Checks(pl, l) {
					t.Error("Checks", pl, count, k)
				}
			}
		}
	}
}

func TestChecksOfOthers(t *testing.T) {
	full, many := make([]int, api.MaxElements), make([]int, api.MaxElements+1)
	pl := plan(7, 2, 3)
	for i, x := range []struct {
		pl   api.Plan
		l    []api.Share
		want bool
	}{
		{pl, nil, false}, {pl, []api.Share{of(1), of(2), of(3)}, true}, {pl, []api.Share{of(1), of(2)}, false}, {pl, []api.Share{of(1), of(2), of(3), of(4)}, false},
		{pl, column(0, 0, 0), true}, {pl, column(1, 2, 3), true}, {pl, column(3, 6, 2), true}, {pl, column(1, 1, 1), false}, {pl, column(1, 2, 4), false}, {pl, column(2, 3, 4), false},
		{pl, column(8, 2, 3), false}, {pl, column(1, 9, 3), false}, {pl, column(1, 2, 10), false}, {pl, column(-6, 2, 3), false}, {pl, column(7, 0, 0), false}, {pl, column(0, 0, 7), false}, {pl, column(0, 0, -7), false},
		{pl, []api.Share{of(1, 0), of(2, 0), of(3)}, false}, {pl, []api.Share{of(1, 0), of(2, 0), of(3, 0, 0)}, false}, {pl, []api.Share{of(1), of(2, 0), of(3, 0)}, false},
		{pl, []api.Share{of(1, full...), of(2, full...), of(3, full...)}, true}, {pl, []api.Share{of(1, many...), of(2, many...), of(3, many...)}, false},
		{plan(7, 1, 3), column(0, 0, 0), true}, {plan(7, 1, 3), column(1, 2, 3), false}, {plan(7, 3, 3), column(1, 2, 3), true}, {plan(7, 3, 3), column(1, 4, 2), true}, {pl, column(1, 4, 2), false},
		{plan(8, 2, 3), column(0, 0, 0), false}, {plan(7, 0, 3), column(0, 0, 0), false}, {plan(7, 4, 3), column(0, 0, 0), false}, {plan(3, 2, 3), column(0, 0, 0), false}, {plan(2, 1, 1), column(0), true},
	} {
		if Checks(x.pl, x.l) != x.want {
			t.Error("Checks", i, x.want)
		}
	}
	for _, pl := range notValid() {
		var l []api.Share
		for i := range min(pl.Holders, 20) {
			l = append(l, of(i+1, 0))
		}
		if Checks(pl, l) || Checks(pl, nil) {
			t.Error("Checks", pl)
		}
	}
}

// P8.2: Apply

func checkApply(t *testing.T, pl api.Plan, l, zero []api.Share) {
	if got, e := Apply(pl, l, zero); e != api.OK || !same(got, sumOf(pl.Prime, l, zero)) {
		t.Error("Apply", pl, l, zero, got, e)
	}
}

// The values of both lists may be any ones.
func TestApplyOfAllSmall(t *testing.T) {
	for _, pl := range []api.Plan{plan(3, 1, 2), plan(3, 2, 2)} {
		for values := range lists(3, 8) {
			checkApply(t, pl, []api.Share{of(1, values[:2]...), of(2, values[2:4]...)}, []api.Share{of(1, values[4:6]...), of(2, values[6:]...)})
		}
	}
}

// The result has the order of the list, whatever that of the other one is, which may have more holders.
func TestApplyInTheOrderOfTheList(t *testing.T) {
	for _, pl := range []api.Plan{plan(17, 1, 4), plan(17, 2, 4), plan(17, 4, 4)} {
		l, zero := column(3, 16, 5, 8), column(16, 2, 11, 9)
		for length := range 5 {
			for a := range orders(4, length) {
				for b := range orders(4, 4) {
					checkApply(t, pl, at(l, a), at(zero, b))
				}
			}
		}
		for i := range 5 { // just the holders of the list
			checkApply(t, pl, l[:i], zero[:i])
			checkApply(t, pl, l[:i], reversed(zero[:i]))
			checkApply(t, pl, l[i:], reversed(zero[i:]))
		}
	}
}

func TestApplyOfGreat(t *testing.T) {
	for _, pl := range greatPlans() {
		for _, count := range []int{0, 1, 2, 20} {
			n := count * (pl.Need - 1)
			l, zero := dealt(pl, spread(pl.Prime, count, 5), spread(pl.Prime, n, 6)), dealt(pl, make([]int, count), spread(pl.Prime, n, 7))
			checkApply(t, pl, l, zero)
			checkApply(t, pl, reversed(l), zero)
			checkApply(t, pl, l[:1], reversed(zero))
			checkApply(t, pl, zero, l)
			for k := range l {
				l[k].Values, zero[k].Values = slices.Repeat([]int{pl.Prime - 1}, count), slices.Repeat([]int{(k + 1) % pl.Prime}, count)
			}
			checkApply(t, pl, l, zero)
		}
	}
	full := []api.Share{of(2, spread(api.Prime, api.MaxElements, 8)...), of(1, spread(api.Prime, api.MaxElements, 9)...)}
	checkApply(t, plan(api.Prime, 2, 3), full, reversed(full))
}

func TestApplyExamples(t *testing.T) {
	pl := plan(7, 2, 3)
	for i, x := range []struct{ l, zero, want []api.Share }{
		{column(4, 5, 6), column(3, 6, 2), column(0, 4, 1)},
		{[]api.Share{of(3, 6), of(1, 4)}, column(3, 6, 2), []api.Share{of(3, 1), of(1, 0)}},
		{[]api.Share{of(2, 6, 1)}, []api.Share{of(3, 1, 1), of(2, 6, 6)}, []api.Share{of(2, 5, 0)}},
		{nil, nil, nil}, {nil, column(1, 2, 3), nil}, {[]api.Share{of(2)}, []api.Share{of(2)}, []api.Share{of(2)}}, {[]api.Share{of(2), of(1)}, []api.Share{of(3), of(1), of(2)}, []api.Share{of(2), of(1)}},
	} {
		if l, e := Apply(pl, x.l, x.zero); e != api.OK || !same(l, x.want) {
			t.Error("Apply", i, l, e)
		}
	}
}

func TestApplyErrors(t *testing.T) {
	pl, l, full := plan(7, 2, 4), column(1, 2, 3, 4), make([]int, api.MaxElements)
	for i, bad := range notGood() {
		for k, other := range [][]api.Share{nil, l[:1], l, bad, {of(3, 1, 1)}} {
			if got, e := Apply(pl, bad, other); e != api.ErrInvalid || len(got) > 0 {
				t.Error("Apply", i, k, got, e)
			}
			if got, e := Apply(pl, other, bad); e != api.ErrInvalid || len(got) > 0 {
				t.Error("Apply", i, k, got, e)
			}
		}
	}
	for i, x := range []struct {
		l, zero []api.Share
		want    api.Errno
	}{
		{l, nil, api.ErrMissing}, {l[:1], nil, api.ErrMissing}, {l, l[:3], api.ErrMissing}, {l, l[1:], api.ErrMissing}, {l[:2], l[2:], api.ErrMissing}, {l[3:], l[:3], api.ErrMissing}, {l[:1], l[1:2], api.ErrMissing}, {at(l, []int{1, 3}), at(l, []int{1, 2, 4}), api.ErrMissing}, {[]api.Share{of(1)}, []api.Share{of(2)}, api.ErrMissing},
		{l, []api.Share{of(1, 1, 1), of(2, 1, 1)}, api.ErrMissing}, {l, []api.Share{of(4), of(2), of(3)}, api.ErrMissing}, {[]api.Share{of(1), of(2)}, l[:1], api.ErrMissing}, {[]api.Share{of(1), of(2)}, l[1:], api.ErrMissing},
		{l[:1], []api.Share{of(1)}, api.ErrRange}, {[]api.Share{of(1)}, l, api.ErrRange}, {l, []api.Share{of(1, 1, 1), of(2, 1, 1), of(3, 1, 1), of(4, 1, 1)}, api.ErrRange}, {[]api.Share{of(2, 1, 1)}, l, api.ErrRange}, {l[:1], []api.Share{of(1, full...)}, api.ErrRange}, {[]api.Share{of(1, full...)}, []api.Share{of(1, full[1:]...)}, api.ErrRange},
		{nil, nil, api.OK}, {nil, l, api.OK}, {nil, []api.Share{of(1)}, api.OK}, {l[:1], l, api.OK}, {l, l, api.OK}, {l[3:], l, api.OK}, {[]api.Share{of(1, full...)}, []api.Share{of(1, full...)}, api.OK},
	} {
		if got, e := Apply(pl, x.l, x.zero); e != x.want || len(got) != len(x.l) && e == api.OK || len(got) > 0 && e != api.OK {
			t.Error("Apply", i, len(got), e)
		}
	}
	for _, pl := range notValid() {
		for _, l := range [][]api.Share{nil, {of(1)}, {of(1, 0)}, {of(1), of(1)}, column(0, 0, 0)} {
			for _, zero := range [][]api.Share{nil, {of(1)}, {of(1, 0)}, column(0, 0, 0)} {
				if got, e := Apply(pl, l, zero); e != api.ErrInvalid || len(got) > 0 {
					t.Error("Apply", pl, l, zero, got, e)
				}
			}
		}
	}
}

// P8.2: Sum

// sumOfAll are the sums by the definition.
func sumOfAll(p int, all [][]api.Share) []api.Share {
	sums := all[0]
	for _, l := range all[1:] {
		sums = sumOf(p, sums, l)
	}
	return sums
}

func checkSum(t *testing.T, pl api.Plan, all ...[]api.Share) {
	if got, e := Sum(pl, all); e != api.OK || !same(got, sumOfAll(pl.Prime, all)) {
		t.Error("Sum", pl, all, got, e)
	}
}

func TestSumOfAllSmall(t *testing.T) {
	for _, pl := range []api.Plan{plan(3, 1, 2), plan(3, 2, 2)} {
		for values := range lists(3, 6) {
			a, b, c := column(values[:2]...), column(values[2:4]...), column(values[4:]...)
			checkSum(t, pl, a)
			checkSum(t, pl, a, b)
			checkSum(t, pl, a, b, c)
			checkSum(t, pl, reversed(a), b, reversed(c))
			checkSum(t, pl, a[1:], b, c, b)
		}
	}
}

func TestSumOfGreat(t *testing.T) {
	for _, pl := range greatPlans() {
		var all [][]api.Share
		for i := range 6 {
			all = append(all, dealt(pl, spread(pl.Prime, 3, i), spread(pl.Prime, 3*(pl.Need-1), i+10)))
			checkSum(t, pl, all...)
			checkSum(t, pl, append([][]api.Share{reversed(all[0][:pl.Holders/2])}, all...)...)
		}
	}
	var all [][]api.Share
	for range 300 {
		all = append(all, []api.Share{of(16, 1073741788, 0, 1), of(1, 1073741788, 1, 1073741788)})
	}
	checkSum(t, plan(1073741789, 3, 16), all...)
	full := []api.Share{of(2, spread(api.Prime, api.MaxElements, 8)...), of(1, spread(api.Prime, api.MaxElements, 9)...)}
	checkSum(t, plan(api.Prime, 2, 3), full, reversed(full), full)
}

func TestSumExamples(t *testing.T) {
	pl := plan(7, 2, 3)
	for i, x := range []struct {
		all  [][]api.Share
		want []api.Share
	}{
		{[][]api.Share{column(1, 2, 3)}, column(1, 2, 3)},
		{[][]api.Share{{of(3, 1), of(1, 2)}}, []api.Share{of(3, 1), of(1, 2)}},
		{[][]api.Share{column(1, 2, 3), column(5, 3, 1), column(4, 1, 5)}, column(3, 6, 2)},
		{[][]api.Share{{of(3, 1), of(1, 2)}, column(5, 3, 1), column(4, 1, 5)}, []api.Share{of(3, 0), of(1, 4)}},
		{[][]api.Share{{of(2)}, {of(3), of(2)}}, []api.Share{of(2)}},
		{[][]api.Share{nil}, nil}, {[][]api.Share{nil, nil}, nil}, {[][]api.Share{nil, column(1, 2, 3), {of(1)}}, nil}, {[][]api.Share{{of(1)}}, []api.Share{of(1)}},
	} {
		if l, e := Sum(pl, x.all); e != api.OK || !same(l, x.want) {
			t.Error("Sum", i, l, e)
		}
	}
}

// The errors after those of the first list come list by list: the first list with one decides.
func TestSumErrors(t *testing.T) {
	pl, l, bad, other := plan(7, 2, 4), column(1, 2, 3, 4), []api.Share{of(1, 7)}, []api.Share{of(4), of(3), of(2), of(1)}
	for i, x := range []struct {
		pl   api.Plan
		all  [][]api.Share
		want api.Errno
	}{
		{pl, nil, api.ErrMissing}, {plan(8, 2, 4), nil, api.ErrMissing}, {api.Plan{}, nil, api.ErrMissing}, {api.Plan{}, [][]api.Share{}, api.ErrMissing},
		{plan(8, 2, 4), [][]api.Share{l}, api.ErrInvalid}, {api.Plan{}, [][]api.Share{nil}, api.ErrInvalid}, {plan(7, 2, 7), [][]api.Share{l, l}, api.ErrInvalid}, {plan(7, 5, 4), [][]api.Share{l, l[1:]}, api.ErrInvalid}, {plan(7, 2, 3), [][]api.Share{l, l}, api.ErrInvalid},
		{pl, [][]api.Share{bad}, api.ErrInvalid}, {pl, [][]api.Share{bad, l}, api.ErrInvalid}, {pl, [][]api.Share{bad, nil}, api.ErrInvalid}, {pl, [][]api.Share{l, bad}, api.ErrInvalid}, {pl, [][]api.Share{nil, bad}, api.ErrInvalid}, {pl, [][]api.Share{l, l, bad}, api.ErrInvalid}, {pl, [][]api.Share{l[:1], l, l, bad}, api.ErrInvalid},
		{pl, [][]api.Share{l, nil}, api.ErrMissing}, {pl, [][]api.Share{l, l[1:]}, api.ErrMissing}, {pl, [][]api.Share{l, l, l[:3]}, api.ErrMissing}, {pl, [][]api.Share{l[:3], l, l[:3], l[1:3]}, api.ErrMissing}, {pl, [][]api.Share{l, other[1:]}, api.ErrMissing},
		{pl, [][]api.Share{l, other}, api.ErrRange}, {pl, [][]api.Share{other, l}, api.ErrRange}, {pl, [][]api.Share{l, l, other}, api.ErrRange}, {pl, [][]api.Share{l[2:], l, l[2:], other}, api.ErrRange},
		{pl, [][]api.Share{l, other, bad}, api.ErrRange}, {pl, [][]api.Share{l, other, nil}, api.ErrRange}, {pl, [][]api.Share{l, nil, bad}, api.ErrMissing}, {pl, [][]api.Share{l, nil, other}, api.ErrMissing}, {pl, [][]api.Share{l, bad, nil}, api.ErrInvalid}, {pl, [][]api.Share{l, bad, other}, api.ErrInvalid}, {pl, [][]api.Share{l, l[:3], other, bad}, api.ErrMissing},
		{pl, [][]api.Share{bad, nil, other}, api.ErrInvalid}, {pl, [][]api.Share{nil, l, other, nil}, api.OK}, {pl, [][]api.Share{l[:2], l[:2]}, api.OK}, {pl, [][]api.Share{other, reversed(other)}, api.OK},
	} {
		if got, e := Sum(x.pl, x.all); e != x.want || e != api.OK && len(got) > 0 || e == api.OK && len(got) != len(x.all[0]) {
			t.Error("Sum", i, got, e)
		}
	}
	for i, bad := range notGood() {
		for k, all := range [][][]api.Share{{bad}, {bad, bad}, {bad, l}, {bad, nil}, {l, bad}, {nil, bad}, {l[:1], l, bad, nil}} {
			if got, e := Sum(pl, all); e != api.ErrInvalid || len(got) > 0 {
				t.Error("Sum", i, k, got, e)
			}
		}
	}
	for _, pl := range notValid() {
		for k, all := range [][][]api.Share{{nil}, {{of(1)}}, {{of(1, 0)}, nil}, {column(0, 0, 0), column(0, 0, 0)}} {
			if got, e := Sum(pl, all); e != api.ErrInvalid || len(got) > 0 {
				t.Error("Sum", pl, k, got, e)
			}
		}
	}
}

// Consequences: refreshed shares give the same secret, and fit; to refresh by a sum is to refresh by each one in turn.
func TestRefreshedSharesGiveTheSameSecret(t *testing.T) {
	for _, pl := range slices.Concat(smallPlans(), greatPlans()) {
		secret := spread(pl.Prime, 4, 11)
		n := share.Random(pl, 4)
		l := dealt(pl, secret, spread(pl.Prime, n, 12))
		turns := l
		var zeros [][]api.Share
		for i := range 3 {
			zero, _ := Zero(pl, 4, spread(pl.Prime, n, 13+i))
			zeros = append(zeros, zero)
			turns, _ = Apply(pl, turns, zero)
			if !share.Fits(pl, turns) || len(turns) != pl.Holders {
				t.Error("refreshed shares do not fit", pl, turns)
			}
			for first := 0; first+pl.Need <= pl.Holders; first++ {
				if got, e := share.Combine(pl, turns[first:]); e != api.OK || !slices.Equal(got, secret) {
					t.Error("refreshed shares give another secret", pl, got, e)
				}
			}
		}
		sum, e := Sum(pl, zeros)
		if e != api.OK || !Checks(pl, sum) {
			t.Error("a sum of zeros gives none", pl, sum, e)
		}
		if once, e := Apply(pl, l, sum); e != api.OK || !same(once, turns) {
			t.Error("to refresh by a sum is something else", pl, once, turns, e)
		}
	}
}

// In a small field: each zero leads from each list of shares of a secret to one of the same secret, and all of them to each one.
func TestRefreshReachesAllSharesOfTheSecret(t *testing.T) {
	for _, pl := range smallPlans() {
		for secret := range pl.Prime {
			for random := range lists(pl.Prime, pl.Need-1) {
				l := dealt(pl, []int{secret}, random)
				reached := map[int]bool{}
				for other := range lists(pl.Prime, pl.Need-1) {
					zero, _ := Zero(pl, 1, other)
					got, _ := Apply(pl, l, zero)
					key := 0
					for _, s := range got {
						key = key*pl.Prime + s.Values[0]
					}
					reached[key] = true
					if x, e := share.Combine(pl, got); e != api.OK || x[0] != secret || !share.Fits(pl, got) {
						t.Error("Apply", pl, l, zero, got)
					}
				}
				want := 1
				for range pl.Need - 1 {
					want *= pl.Prime
				}
				if len(reached) != want {
					t.Error("not all shares of the secret", pl, l, len(reached), want)
				}
			}
		}
	}
}

// The example: two holders who each give a Zero refresh all shares by the Sum of both.
func TestTwoHoldersRefresh(t *testing.T) {
	pl := plan(7, 2, 3)
	l, _ := share.Deal(pl, []int{3}, []int{1})
	first, _ := Zero(pl, 1, []int{3})
	second, _ := Zero(pl, 1, []int{6})
	sum, e := Sum(pl, [][]api.Share{first, second})
	if e != api.OK || !same(sum, column(2, 4, 6)) || !Checks(pl, sum) {
		t.Error("Sum", sum, e)
	}
	fresh, e := Apply(pl, l, sum)
	if e != api.OK || !same(fresh, column(6, 2, 5)) {
		t.Error("Apply", fresh, e)
	}
	if secret, e := share.Combine(pl, fresh[1:]); e != api.OK || !slices.Equal(secret, []int{3}) {
		t.Error("Combine", secret, e)
	}
	if share.Fits(pl, []api.Share{l[0], fresh[1], fresh[2]}) {
		t.Error("an old share fits new ones")
	}
}

// P1 and the rules of memory

// made are the values of all results for these arguments.
func made(pl api.Plan, all [][]api.Share, random []int) [][]int {
	zero, _ := Zero(pl, len(random), random)
	applied, _ := Apply(pl, all[0], all[1])
	none, _ := Apply(pl, all[0], []api.Share{of(1, 0, 0, 0), of(2, 0, 0, 0), of(3, 0, 0, 0)})
	var values [][]int
	for _, l := range [][]api.Share{zero, applied, none} {
		for _, s := range l {
			values = append(values, s.Values)
		}
	}
	for n := range all {
		l, _ := Sum(pl, all[:n+1])
		for _, s := range l {
			values = append(values, s.Values)
		}
	}
	return values
}

func TestMemory(t *testing.T) {
	pl, random := plan(7, 2, 3), []int{1, 2, 3, 77, 78}
	store := []int{1, 2, 3, 4, 5, 6, 6, 5, 4, 3, 2, 1, 0, 6, 5, 77, 78}
	l := []api.Share{{Holder: 3, Values: store[:3]}, {Holder: 1, Values: store[3:6]}, {Holder: 1, Values: store[6:9]}, {Holder: 2, Values: store[9:12]}, {Holder: 3, Values: store[12:15]}, {Holder: 99, Values: store[15:]}}
	all := [][]api.Share{l[:2], l[2:5], l[2:5], {of(99)}}
	before := slices.Clone(store)
	results := made(pl, all[:3], random[:3])
	if !slices.EqualFunc(results, made(pl, all[:3], random[:3]), slices.Equal[[]int]) {
		t.Error("two calls have different results")
	}
	want := [][]int{{1, 2, 3}, {2, 4, 6}, {3, 6, 2}, {1, 1, 1}, {3, 3, 3}, {1, 2, 3}, {4, 5, 6}, {1, 2, 3}, {4, 5, 6}, {1, 1, 1}, {3, 3, 3}, {1, 0, 6}, {2, 1, 0}}
	if !slices.EqualFunc(results, want, slices.Equal[[]int]) {
		t.Error("the results are other ones", results)
	}
	for i, x := range results { // a result may be written to, with all of its memory, and only it changes
		others := slices.Concat(slices.Concat(results[:i]...), slices.Concat(results[i+1:]...))
		x = x[:cap(x)]
		for k := range x {
			x[k] = 99 + i
		}
		if now := slices.Concat(slices.Concat(results[:i]...), slices.Concat(results[i+1:]...)); !slices.Equal(now, others) {
			t.Error("results share memory", i)
		}
	}
	for n := range 3 {
		sums, _ := Sum(pl, all[:n+1])
		sums = sums[:cap(sums)]
		for i := range sums {
			sums[i].Holder = 50
		}
	}
	applied, _ := Apply(pl, all[0], all[1])
	applied = applied[:cap(applied)]
	for i := range applied {
		applied[i].Holder = 50
	}
	if !slices.Equal(store, before) || !slices.Equal(random, []int{1, 2, 3, 77, 78}) || len(all[3]) != 1 || all[3][0].Holder != 99 {
		t.Error("an argument was changed", store, random, all)
	}
	for i, holder := range []int{3, 1, 1, 2, 3, 99} {
		if l[i].Holder != holder || len(l[i].Values) != []int{3, 3, 3, 3, 3, 2}[i] {
			t.Error("an argument was changed", l)
		}
	}
	for i, n := range []int{2, 3, 3, 1} {
		if len(all[i]) != n {
			t.Error("an argument was changed", all)
		}
	}
}

func TestNilIsEmpty(t *testing.T) {
	pl := plan(7, 2, 2)
	nils, empties := []api.Share{{Holder: 1}, {Holder: 2}}, []api.Share{{Holder: 1, Values: []int{}}, {Holder: 2, Values: []int{}}}
	for _, x := range [][]api.Share{nils, empties, {nils[0], empties[1]}} {
		if !Checks(pl, x) {
			t.Error("nil and empty", x)
		}
		for _, y := range [][]api.Share{nils, empties, {empties[0], nils[1]}} {
			if l, e := Apply(pl, x, y); e != api.OK || !same(l, nils) {
				t.Error("nil and empty", l, e)
			}
			if l, e := Sum(pl, [][]api.Share{x, y}); e != api.OK || !same(l, nils) {
				t.Error("nil and empty", l, e)
			}
		}
	}
	for _, x := range [][]api.Share{nil, {}} {
		for _, y := range [][]api.Share{nil, {}} {
			if l, e := Apply(pl, x, y); e != api.OK || len(l) > 0 {
				t.Error("nil and empty", l, e)
			}
			if l, e := Sum(pl, [][]api.Share{x, y}); e != api.OK || len(l) > 0 {
				t.Error("nil and empty", l, e)
			}
		}
		if _, e := Apply(pl, nils, x); e != api.ErrMissing || Checks(pl, x) {
			t.Error("nil and empty", e)
		}
	}
	for _, random := range [][]int{nil, {}} {
		if l, e := Zero(pl, 0, random); e != api.OK || !same(l, nils) {
			t.Error("nil and empty", l, e)
		}
	}
	for _, all := range [][][]api.Share{nil, {}} {
		if l, e := Sum(pl, all); e != api.ErrMissing || len(l) > 0 {
			t.Error("nil and empty", l, e)
		}
	}
}

// strange are numbers that are no permitted primes, no elements, no holders, or lead to sums that do not fit.
var strange = []int{math.MinInt, math.MinInt + 1, -1 << 32, -2, -1, 0, 1, 2, 3, 7, 16, 17, api.MaxElements, api.Prime, api.MaxPrime, 1 << 32, 1 << 62, math.MaxInt - 1, math.MaxInt}

func TestNothingPanics(t *testing.T) {
	for _, p := range strange {
		for _, need := range strange {
			for _, holders := range strange {
				pl := plan(p, need, holders)
				for _, x := range strange {
					l := []api.Share{of(1, x), of(x, 1), of(2, strange...), {Holder: x}}
					Zero(pl, x, strange)
					Zero(pl, len(strange), []int{x})
					for i := range l {
						Apply(pl, l[i:], l[:i])
						Apply(pl, l[:1], l[i:])
						Sum(pl, [][]api.Share{l[:i], l[i:], l})
						Checks(pl, l[:i])
						Checks(pl, l[i:])
					}
				}
			}
		}
	}
}
