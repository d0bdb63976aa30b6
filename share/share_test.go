package share

import (
	"iter"
	"math"
	"math/big"
	"slices"
	"testing"

	"reportescrow/api"
	"reportescrow/poly"
)

// great are primes for which products come near 2^60.
var great = []int{65537, api.Prime, 1073741783, 1073741789}

func plan(p, need, holders int) api.Plan {
	return api.Plan{Prime: p, Need: need, Holders: holders}
}

func of(holder int, values ...int) api.Share { return api.Share{Holder: holder, Values: values} }

func same(a, b []api.Share) bool {
	return slices.EqualFunc(a, b, func(x, y api.Share) bool { return x.Holder == y.Holder && slices.Equal(x.Values, y.Values) })
}

func isZero(s api.Share) bool { return s.Holder == 0 && len(s.Values) == 0 }

// lists gives all lists of so many numbers from 0 to p - 1.
func lists(p, length int) iter.Seq[[]int] {
	return func(yield func([]int) bool) {
		count := 1
		for range length {
			count *= p
		}
		for n := range count {
			l := make([]int, length)
			for i := range l {
				l[i] = n % p
				n /= p
			}
			if !yield(l) {
				return
			}
		}
	}
}

// orders gives all lists of so many different holders out of 1 to most, in each order.
func orders(most, length int) iter.Seq[[]int] {
	return func(yield func([]int) bool) {
		for l := range lists(most, length) {
			for i := range l {
				l[i]++
			}
			sorted := slices.Sorted(slices.Values(l))
			if len(slices.Compact(sorted)) == length && !yield(l) {
				return
			}
		}
	}
}

// spread are so many elements of the field of p without an order.
func spread(p, length, seed int) []int {
	l := make([]int, length)
	for i := range l {
		l[i] = int(uint64(seed*100000+i+1) * 0x9E3779B97F4A7C15 >> 3 % uint64(p))
	}
	return l
}

// exact is the value of a polynomial at x, by numbers of any length.
func exact(p int, f []int, x int) int {
	sum := new(big.Int)
	for i, c := range f {
		power := new(big.Int).Exp(big.NewInt(int64(x)), big.NewInt(int64(i)), nil)
		sum.Add(sum, power.Mul(power, big.NewInt(int64(c))))
	}
	return int(sum.Mod(sum, big.NewInt(int64(p))).Int64())
}

// dealt are the shares by the definition.
func dealt(pl api.Plan, secret, random []int) []api.Share {
	var l []api.Share
	for holder := 1; holder <= pl.Holders; holder++ {
		s := of(holder)
		for i, x := range secret {
			f := append([]int{x}, random[i*(pl.Need-1):(i+1)*(pl.Need-1)]...)
			s.Values = append(s.Values, exact(pl.Prime, f, holder))
		}
		l = append(l, s)
	}
	return l
}

func at(l []api.Share, holders []int) []api.Share {
	var chosen []api.Share
	for _, h := range holders {
		chosen = append(chosen, l[h-1])
	}
	return chosen
}

// smallPlans are plans for which all shares can be tried, with Need from 1 on; greatPlans those with great fields and many holders.
func smallPlans() []api.Plan {
	return []api.Plan{plan(2, 1, 1), plan(3, 1, 1), plan(3, 1, 2), plan(3, 2, 2), plan(5, 1, 3), plan(5, 2, 2), plan(5, 2, 4), plan(5, 3, 3), plan(5, 3, 4), plan(5, 4, 4)}
}

func greatPlans() []api.Plan {
	l := []api.Plan{plan(17, 16, 16), plan(17, 1, 16), plan(17, 9, 16), plan(19, 7, 13)}
	for _, p := range great {
		l = append(l, plan(p, 1, 1), plan(p, 1, 16), plan(p, 2, 3), plan(p, 3, 5), plan(p, 5, 5), plan(p, 8, 15), plan(p, 15, 16), plan(p, 16, 16))
	}
	return l
}

// notValid are plans that are not, each for one reason, and some for more.
func notValid() []api.Plan {
	return []api.Plan{{}, plan(8, 1, 1), plan(1, 1, 1), plan(0, 1, 1), plan(-7, 1, 1), plan(1073741827, 1, 1), plan(7, 0, 3), plan(7, -1, 3), plan(7, 4, 3), plan(7, 1, 7), plan(7, 3, 8), plan(2, 1, 2), plan(7, 0, 0), plan(7, -2, -1), plan(api.Prime, 1, 17), plan(api.Prime, 17, 17), plan(api.Prime, 17, 16), plan(api.Prime, math.MinInt, math.MaxInt), plan(math.MaxInt, 1, 1), plan(math.MinInt, 1, 1), plan(api.Prime, 1, math.MaxInt), plan(api.Prime, math.MinInt, 1)}
}

// P6.1: Valid

func TestValid(t *testing.T) {
	permitted := map[int]bool{2: true, 3: true, 5: true, 7: true, 13: true, 17: true, 19: true, api.Prime: true, 1073741789: true}
	for _, p := range []int{math.MinInt, -7, -1, 0, 1, 2, 3, 4, 5, 6, 7, 13, 15, 16, 17, 18, 19, api.Prime, api.Prime + 1, 1073741789, api.MaxPrime, 1073741827, math.MaxInt} {
		for need := -2; need <= 20; need++ {
			for holders := -2; holders <= 20; holders++ {
				want := permitted[p] && 1 <= need && need <= holders && holders <= 16 && holders < p
				if Valid(plan(p, need, holders)) != want {
					t.Error("Valid", p, need, holders)
				}
			}
		}
	}
	for _, pl := range notValid() {
		if Valid(pl) {
			t.Error("Valid", pl)
		}
	}
	for _, pl := range slices.Concat(smallPlans(), greatPlans()) {
		if !Valid(pl) {
			t.Error("Valid", pl)
		}
	}
}

// P6.1: Random

func TestRandom(t *testing.T) {
	for need := 1; need <= 16; need++ {
		for _, count := range []int{0, 1, 2, 7, 100, api.MaxElements} {
			want := 0
			for range need - 1 {
				want += count
			}
			if got := Random(plan(api.Prime, need, 16), count); got != want {
				t.Error("Random", need, count, got)
			}
		}
	}
}

// P6.1: Deal

func checkDealt(t *testing.T, pl api.Plan, secret, random []int) {
	l, e := Deal(pl, secret, random)
	if e != api.OK || !same(l, dealt(pl, secret, random)) {
		t.Error("Deal", pl, secret, random, l, e)
	}
}

func TestDealOfAllSmall(t *testing.T) {
	for _, pl := range smallPlans() {
		for secret := range lists(pl.Prime, 1) {
			for random := range lists(pl.Prime, pl.Need-1) {
				checkDealt(t, pl, secret, random)
			}
		}
	}
	for secret := range lists(3, 2) {
		for random := range lists(3, 2) {
			checkDealt(t, plan(3, 2, 2), secret, random)
		}
	}
}

func TestDealOfGreat(t *testing.T) {
	for _, pl := range greatPlans() {
		for _, count := range []int{0, 1, 2, 3, 20} {
			n := count * (pl.Need - 1)
			checkDealt(t, pl, spread(pl.Prime, count, 1), spread(pl.Prime, n, 2))
			checkDealt(t, pl, slices.Repeat([]int{pl.Prime - 1}, count), slices.Repeat([]int{pl.Prime - 1}, n))
			checkDealt(t, pl, make([]int, count), make([]int, n))
		}
	}
	for _, need := range []int{1, 2, 16} {
		checkDealt(t, plan(api.Prime, need, 16), spread(api.Prime, api.MaxElements, 3), spread(api.Prime, api.MaxElements*(need-1), 4))
	}
}

func TestDealExamples(t *testing.T) {
	for i, x := range []struct {
		pl             api.Plan
		secret, random []int
		want           []api.Share
	}{
		{plan(7, 2, 3), []int{3}, []int{1}, []api.Share{of(1, 4), of(2, 5), of(3, 6)}},
		{plan(7, 2, 3), []int{3, 6}, []int{1, 2}, []api.Share{of(1, 4, 1), of(2, 5, 3), of(3, 6, 5)}},
		{plan(7, 3, 3), []int{1, 0}, []int{0, 1, 2, 0}, []api.Share{of(1, 2, 2), of(2, 5, 4), of(3, 3, 6)}},
		{plan(7, 1, 2), []int{3, 6, 0}, nil, []api.Share{of(1, 3, 6, 0), of(2, 3, 6, 0)}},
		{plan(7, 4, 5), nil, nil, []api.Share{of(1), of(2), of(3), of(4), of(5)}},
		{plan(2, 1, 1), []int{1, 0}, nil, []api.Share{of(1, 1, 0)}},
	} {
		if l, e := Deal(x.pl, x.secret, x.random); e != api.OK || !same(l, x.want) {
			t.Error("Deal", i, l, e)
		}
	}
}

func TestDealErrors(t *testing.T) {
	many := make([]int, api.MaxElements+1)
	strange := append(slices.Clone(many), -1)
	for i, x := range []struct {
		pl             api.Plan
		secret, random []int
		want           api.Errno
	}{
		{plan(7, 0, 3), many, nil, api.ErrInvalid}, {plan(7, 4, 3), []int{7}, nil, api.ErrInvalid}, {plan(8, 2, 3), []int{1}, []int{1}, api.ErrInvalid}, {plan(7, 2, 7), []int{1}, []int{1}, api.ErrInvalid},
		{plan(7, 1, 3), many, nil, api.ErrLimit}, {plan(7, 2, 3), many, many, api.ErrLimit}, {plan(7, 2, 3), many, nil, api.ErrLimit}, {plan(7, 1, 3), strange, nil, api.ErrLimit}, {plan(7, 2, 3), many, strange, api.ErrLimit},
		{plan(7, 1, 3), many[1:], nil, api.OK}, {plan(7, 2, 3), many[1:], many[1:], api.OK},
		{plan(7, 2, 3), []int{7}, []int{1}, api.ErrRange}, {plan(7, 2, 3), []int{-1}, []int{1}, api.ErrRange}, {plan(7, 2, 3), []int{1, 2, 7}, []int{1, 2, 3}, api.ErrRange}, {plan(7, 2, 3), []int{math.MinInt}, []int{1}, api.ErrRange}, {plan(7, 1, 3), []int{math.MaxInt}, nil, api.ErrRange},
		{plan(7, 2, 3), []int{1}, []int{7}, api.ErrRange}, {plan(7, 2, 3), []int{1}, []int{-1}, api.ErrRange}, {plan(7, 3, 3), []int{1}, []int{1, 8}, api.ErrRange}, {plan(7, 3, 3), []int{1}, []int{-7, 1}, api.ErrRange},
		{plan(7, 2, 3), []int{1}, nil, api.ErrRange}, {plan(7, 2, 3), []int{1}, []int{1, 1}, api.ErrRange}, {plan(7, 3, 3), []int{1, 1}, []int{1, 1, 1}, api.ErrRange}, {plan(7, 1, 3), []int{1}, []int{1}, api.ErrRange}, {plan(7, 3, 3), nil, []int{1}, api.ErrRange},
		{plan(2, 1, 1), []int{2}, nil, api.ErrRange}, {plan(api.Prime, 2, 3), []int{api.Prime}, []int{0}, api.ErrRange}, {plan(api.Prime, 2, 3), []int{0}, []int{api.Prime}, api.ErrRange},
	} {
		if l, e := Deal(x.pl, x.secret, x.random); e != x.want || e != api.OK && len(l) > 0 {
			t.Error("Deal", i, len(l), e)
		}
	}
	for _, pl := range notValid() {
		for _, secret := range [][]int{nil, {0}, {-1}, many} {
			if l, e := Deal(pl, secret, nil); e != api.ErrInvalid || len(l) > 0 {
				t.Error("Deal", pl, len(secret), len(l), e)
			}
		}
	}
}

// P6.2: Combine

func TestCombineOfAllSmall(t *testing.T) {
	for _, pl := range smallPlans() {
		for secret := range lists(pl.Prime, 1) {
			for random := range lists(pl.Prime, pl.Need-1) {
				l := dealt(pl, secret, random)
				for length := pl.Need; length <= pl.Holders; length++ {
					for holders := range orders(pl.Holders, length) {
						if got, e := Combine(pl, at(l, holders)); e != api.OK || !slices.Equal(got, secret) {
							t.Error("Combine", pl, holders, secret, got, e)
						}
					}
				}
			}
		}
	}
}

// some are lists of holders in no order, for each length.
func some(most, length int) [][]int {
	var up []int
	for i := range length {
		up = append(up, i+1)
	}
	down := slices.Clone(up)
	slices.Reverse(down)
	var high, mixed []int
	for i := range length {
		high = append(high, most-i)
		mixed = append(mixed, (i*7+3)%most+1)
	}
	l := [][]int{up, down, high}
	if most%7 != 0 {
		l = append(l, mixed)
	}
	return l
}

func TestCombineOfGreat(t *testing.T) {
	for _, pl := range greatPlans() {
		for _, count := range []int{0, 1, 2, 20} {
			for _, secret := range [][]int{spread(pl.Prime, count, 5), make([]int, count), slices.Repeat([]int{pl.Prime - 1}, count)} {
				l := dealt(pl, secret, spread(pl.Prime, count*(pl.Need-1), 6))
				for length := pl.Need; length <= pl.Holders; length++ {
					for _, holders := range some(pl.Holders, length) {
						if got, e := Combine(pl, at(l, holders)); e != api.OK || !slices.Equal(got, secret) {
							t.Error("Combine", pl, holders, secret, got, e)
						}
					}
				}
			}
		}
	}
	secret := spread(api.Prime, api.MaxElements, 7)
	l, _ := Deal(plan(api.Prime, 16, 16), secret, spread(api.Prime, 15*api.MaxElements, 8))
	if got, e := Combine(plan(api.Prime, 16, 16), l); e != api.OK || !slices.Equal(got, secret) {
		t.Error("Combine", len(got), e)
	}
}

// P6.2: the first Need shares decide, whatever the values of the others are.
func TestCombineTakesTheFirst(t *testing.T) {
	pl := plan(5, 2, 4)
	for values := range lists(5, 4) {
		for holders := range orders(4, 4) {
			l := at([]api.Share{of(1, values[0]), of(2, values[1]), of(3, values[2]), of(4, values[3])}, holders)
			f := throughFirst(5, l[:2])
			if got, e := Combine(pl, l); e != api.OK || !slices.Equal(got, []int{f[0]}) {
				t.Error("Combine", l, got, e)
			}
		}
	}
}

// throughFirst searches the polynomial of degree less than the number of shares with their first values.
func throughFirst(p int, l []api.Share) []int {
	for f := range lists(p, len(l)) {
		if !slices.ContainsFunc(l, func(s api.Share) bool { return exact(p, f, s.Holder) != s.Values[0] }) {
			return f
		}
	}
	return nil
}

// notGood are lists that are not good in plan(7, 2, 4), with and without Need shares.
func notGood() [][]api.Share {
	many := make([]int, api.MaxElements+1)
	return [][]api.Share{
		{of(0)}, {of(5)}, {of(-1)}, {of(math.MinInt)}, {of(math.MaxInt)}, {of(0, 1)}, {of(7, 1)}, {of(5, 1)}, {{}},
		{of(1, 7)}, {of(1, -1)}, {of(1, 0, 0, 7)}, {of(1, math.MinInt)}, {of(1, math.MaxInt)},
		{of(1, 1), of(2, 7)}, {of(1, 7), of(2, 1)}, {of(1, 1), of(5, 1)}, {of(0, 1), of(1, 1)}, {of(1, 1), of(2, 1), of(3, -1)}, {of(1, 1), of(2, 1), of(0, 1)}, {of(1, 1), of(2, 1), of(5, 1)},
		{of(1, 1), of(1, 1)}, {of(1, 1), of(1, 2)}, {of(1), of(1)}, {of(4, 1), of(2, 1), of(3, 1), of(4, 1)}, {of(1, 1), of(2, 2), of(3, 3), of(2, 2)}, {of(1, 1), of(2, 1), of(3, 1), of(4, 1), of(1, 1)},
		{of(1, 1), of(2)}, {of(1), of(2, 1)}, {of(1, 1), of(2, 1, 1)}, {of(1, 1, 1), of(2, 1)}, {of(1, 1), of(2, 1), of(3)}, {of(1, 1), of(2, 1), of(3, 1, 1)}, {of(1, 0), of(2, 0), of(3, 0), of(4)},
		{of(1, many...)}, {of(1, many...), of(2, many...)}, {of(1, 1), of(2, many...)}, {of(1, many...), of(2, 1)},
	}
}

func TestCombineErrors(t *testing.T) {
	pl := plan(7, 2, 4)
	for i, l := range notGood() {
		if got, e := Combine(pl, l); e != api.ErrInvalid || len(got) > 0 {
			t.Error("Combine", i, got, e)
		}
	}
	full := make([]int, api.MaxElements)
	for i, l := range [][]api.Share{nil, {}, {of(1)}, {of(4, 6, 0)}, {of(2, full...)}} {
		if got, e := Combine(pl, l); e != api.ErrMissing || len(got) > 0 {
			t.Error("Combine", i, got, e)
		}
	}
	for length := range 16 {
		l := dealt(plan(17, 16, 16), []int{3}, spread(17, 15, 9))[:length]
		if got, e := Combine(plan(17, 16, 16), l); e != api.ErrMissing || len(got) > 0 {
			t.Error("Combine", length, got, e)
		}
	}
	if got, e := Combine(pl, []api.Share{of(1, full...), of(2, full...)}); e != api.OK || len(got) != api.MaxElements {
		t.Error("Combine", len(got), e)
	}
	for _, pl := range notValid() {
		for _, l := range [][]api.Share{nil, {of(1)}, {of(1, 0)}, {of(1), of(1)}, {of(1), of(2), of(3)}} {
			if got, e := Combine(pl, l); e != api.ErrInvalid || len(got) > 0 {
				t.Error("Combine", pl, l, got, e)
			}
		}
	}
}

// P6.2: Fits

// fitting tells by trying all polynomials whether the values in one place are those of one of degree less than need.
func fitting(p, need int, holders, values []int) bool {
	for f := range lists(p, need) {
		wrong := false
		for i, h := range holders {
			wrong = wrong || exact(p, f, h) != values[i]
		}
		if !wrong {
			return true
		}
	}
	return false
}

func TestFitsOfAllSmall(t *testing.T) {
	found := map[bool]int{}
	for _, pl := range smallPlans() {
		for length := range min(pl.Holders, 3) + 1 {
			for holders := range orders(pl.Holders, length) {
				for values := range lists(pl.Prime, length) {
					var l []api.Share
					for i, h := range holders {
						l = append(l, of(h, values[i]))
					}
					want := fitting(pl.Prime, pl.Need, holders, values)
					found[want]++
					if Fits(pl, l) != want {
						t.Error("Fits", pl, l, want)
					}
				}
			}
		}
	}
	if found[true] < 100 || found[false] < 100 {
		t.Error("the lists are not of both kinds", found)
	}
}

func TestFitsOfAllHolders(t *testing.T) {
	for _, need := range []int{1, 2, 3, 4} {
		for values := range lists(5, 4) {
			l := []api.Share{of(3, values[0]), of(1, values[1]), of(4, values[2]), of(2, values[3])}
			if Fits(plan(5, need, 4), l) != fitting(5, need, []int{3, 1, 4, 2}, values) {
				t.Error("Fits", need, values)
			}
		}
	}
}

// P6.2: one wrong value is found in each place and of each holder, if there are more shares than Need.
func TestFitsOfGreat(t *testing.T) {
	for _, pl := range greatPlans() {
		l := dealt(pl, spread(pl.Prime, 5, 10), spread(pl.Prime, 5*(pl.Need-1), 11))
		for length := range pl.Holders + 1 {
			for _, holders := range some(pl.Holders, length) {
				chosen := at(l, holders)
				if !Fits(pl, chosen) {
					t.Error("Fits", pl, holders)
				}
				for i := range chosen {
					for place := range 5 {
						wrong := slices.Clone(chosen)
						wrong[i].Values = slices.Clone(wrong[i].Values)
						wrong[i].Values[place] = (wrong[i].Values[place] + 1) % pl.Prime
						if Fits(pl, wrong) != (length <= pl.Need) {
							t.Error("Fits", pl, holders, i, place)
						}
					}
				}
			}
		}
	}
}

func TestFitsOfBadLists(t *testing.T) {
	for i, l := range notGood() {
		if Fits(plan(7, 2, 4), l) {
			t.Error("Fits", i)
		}
	}
	for _, pl := range notValid() {
		if Fits(pl, nil) || Fits(pl, []api.Share{of(1)}) || Fits(pl, []api.Share{of(1, 0)}) {
			t.Error("Fits", pl)
		}
	}
	for _, pl := range slices.Concat(smallPlans(), greatPlans()) {
		if !Fits(pl, nil) || !Fits(pl, []api.Share{}) || !Fits(pl, []api.Share{of(1)}) || !Fits(pl, dealt(pl, nil, nil)) {
			t.Error("Fits", pl)
		}
	}
}

// P6.3: Add

func TestAddOfAllSmall(t *testing.T) {
	for _, p := range []int{3, 5} {
		for a := range lists(p, 2) {
			for b := range lists(p, 2) {
				for holder := 1; holder <= 2; holder++ {
					want := of(holder, (a[0]+b[0])%p, (a[1]+b[1])%p)
					if got, e := Add(plan(p, 2, 2), of(holder, a...), of(holder, b...)); e != api.OK || !same([]api.Share{got}, []api.Share{want}) {
						t.Error("Add", p, a, b, got, e)
					}
				}
			}
		}
	}
}

// P6.3: sums and products of shares are those of what is shared.
func TestSumsOfShares(t *testing.T) {
	for _, pl := range slices.Concat(smallPlans(), greatPlans()) {
		p, n := pl.Prime, 4*(pl.Need-1)
		secrets, randoms := [2][]int{spread(p, 4, 12), spread(p, 4, 13)}, [2][]int{spread(p, n, 14), spread(p, n, 15)}
		a, b := dealt(pl, secrets[0], randoms[0]), dealt(pl, secrets[1], randoms[1])
		sums := dealt(pl, linear(p, secrets[0], 1, secrets[1]), linear(p, randoms[0], 1, randoms[1]))
		products := map[int][]api.Share{}
		for _, c := range []int{0, 1, p / 2, p - 1} {
			products[c] = dealt(pl, linear(p, nil, c, secrets[0]), linear(p, nil, c, randoms[0]))
		}
		for k := range a {
			if got, e := Add(pl, a[k], b[k]); e != api.OK || !same([]api.Share{got}, sums[k:k+1]) {
				t.Error("Add", pl, k, got, e)
			}
			for c, l := range products {
				if got := Scale(pl, a[k], c); !same([]api.Share{got}, l[k:k+1]) {
					t.Error("Scale", pl, k, c, got)
				}
			}
		}
	}
}

// linear is a plus c times b, by numbers of any length.
func linear(p int, a []int, c int, b []int) []int {
	l := make([]int, len(b))
	for i, x := range b {
		f := []int{0, x}
		if a != nil {
			f[0] = a[i]
		}
		l[i] = exact(p, f, c)
	}
	return l
}

func TestAddErrors(t *testing.T) {
	pl := plan(7, 2, 4)
	for i, x := range [][2]api.Share{
		{of(1, 1), of(2, 1)}, {of(2, 1), of(1, 1)}, {of(1), of(2)}, {of(1, 1), of(1)}, {of(1), of(1, 1)}, {of(1, 1), of(1, 1, 1)}, {of(1, 1, 1), of(1, 1)},
		{of(0, 1), of(0, 1)}, {of(5, 1), of(5, 1)}, {of(-1), of(-1)}, {{}, {}}, {of(0, 1), of(1, 1)}, {of(1, 1), of(5, 1)},
		{of(1, 7), of(1, 1)}, {of(1, 1), of(1, 7)}, {of(1, -1), of(1, 1)}, {of(1, 1), of(1, -1)}, {of(1, 0, 8), of(1, 0, 0)}, {of(1, 0, 0), of(1, 0, 8)}, {of(4, math.MaxInt), of(4, 0)}, {of(4, 0), of(4, math.MinInt)},
	} {
		if got, e := Add(pl, x[0], x[1]); e != api.ErrInvalid || !isZero(got) {
			t.Error("Add", i, got, e)
		}
	}
	for _, pl := range notValid() {
		for _, s := range []api.Share{of(1), of(1, 0), {}} {
			if got, e := Add(pl, s, s); e != api.ErrInvalid || !isZero(got) {
				t.Error("Add", pl, got, e)
			}
		}
	}
	for _, holder := range []int{1, 4} {
		if got, e := Add(pl, of(holder), of(holder)); e != api.OK || got.Holder != holder || len(got.Values) != 0 {
			t.Error("Add", got, e)
		}
	}
}

// P6.3: that a share stands says nothing of how many values it has.
func TestManyValues(t *testing.T) {
	n := 2 * api.MaxElements
	a, b := spread(api.Prime, n, 16), spread(api.Prime, n, 17)
	if got, e := Add(plan(api.Prime, 2, 3), of(3, a...), of(3, b...)); e != api.OK || got.Holder != 3 || !slices.Equal(got.Values, linear(api.Prime, a, 1, b)) {
		t.Error("Add", len(got.Values), e)
	}
	if got := Scale(plan(api.Prime, 2, 3), of(3, a...), 12345); got.Holder != 3 || !slices.Equal(got.Values, linear(api.Prime, nil, 12345, a)) {
		t.Error("Scale", len(got.Values))
	}
}

// P6.3: Scale

func TestScaleOfAllSmall(t *testing.T) {
	for _, p := range []int{2, 3, 5} {
		for a := range lists(p, 2) {
			for c := range p {
				for holder := 1; holder < p; holder++ {
					if got := Scale(plan(p, 1, p-1), of(holder, a...), c); !same([]api.Share{got}, []api.Share{of(holder, a[0]*c%p, a[1]*c%p)}) {
						t.Error("Scale", p, a, c, got)
					}
				}
			}
		}
	}
	if got := Scale(plan(7, 2, 3), of(3), 4); got.Holder != 3 || len(got.Values) != 0 {
		t.Error("Scale", got)
	}
}

// P6.4

// explained are the shares by the definition: of the polynomials through the points that it names.
func explained(pl api.Plan, known []api.Share, secret []int) []api.Share {
	l := make([]api.Share, pl.Holders)
	for k := range l {
		l[k].Holder = k + 1
	}
	for i, x := range secret {
		xs, ys := []int{0}, []int{x}
		for _, s := range known {
			xs, ys = append(xs, s.Holder), append(ys, s.Values[i])
		}
		for holder := 1; len(xs) < pl.Need; holder++ {
			if !slices.Contains(xs, holder) {
				xs, ys = append(xs, holder), append(ys, 0)
			}
		}
		f, _ := poly.Through(pl.Prime, xs, ys)
		for k := range l {
			l[k].Values = append(l[k].Values, exact(pl.Prime, f, k+1))
		}
	}
	return l
}

func checkExplained(t *testing.T, pl api.Plan, known []api.Share, secret []int) {
	l, e := Explain(pl, known, secret)
	if e != api.OK || !same(l, explained(pl, known, secret)) {
		t.Error("Explain", pl, known, secret, l, e)
		return
	}
	for _, s := range known {
		if !same(l[s.Holder-1:s.Holder], []api.Share{s}) {
			t.Error("Explain", pl, known, secret, l)
		}
	}
	if got, e := Combine(pl, l); !Fits(pl, l) || e != api.OK || !slices.Equal(got, secret) {
		t.Error("Explain", pl, known, secret, l, got, e)
	}
}

func TestExplainOfAllSmall(t *testing.T) {
	for _, pl := range smallPlans() {
		for length := range pl.Need {
			for holders := range orders(pl.Holders, length) {
				for values := range lists(pl.Prime, length) {
					var known []api.Share
					for i, h := range holders {
						known = append(known, of(h, values[i]))
					}
					for secret := range lists(pl.Prime, 1) {
						checkExplained(t, pl, known, secret)
					}
				}
			}
		}
	}
}

func TestExplainOfGreat(t *testing.T) {
	for _, pl := range greatPlans() {
		for length := range pl.Need {
			for _, holders := range some(pl.Holders, length) {
				for _, count := range []int{0, 1, 6} {
					var known []api.Share
					for _, h := range holders {
						known = append(known, of(h, spread(pl.Prime, count, 20+h)...))
					}
					checkExplained(t, pl, known, spread(pl.Prime, count, 18))
					checkExplained(t, pl, known, slices.Repeat([]int{pl.Prime - 1}, count))
				}
			}
		}
	}
	full := spread(api.Prime, api.MaxElements, 19)
	checkExplained(t, plan(api.Prime, 3, 5), []api.Share{of(4, full...)}, full)
	checkExplained(t, plan(api.Prime, 16, 16), nil, full)
}

func TestExplainExamples(t *testing.T) {
	for i, x := range []struct {
		pl     api.Plan
		known  []api.Share
		secret []int
		want   []api.Share
	}{
		{plan(7, 1, 3), nil, []int{4, 0}, []api.Share{of(1, 4, 0), of(2, 4, 0), of(3, 4, 0)}},
		{plan(7, 2, 3), nil, []int{3}, []api.Share{of(1, 0), of(2, 4), of(3, 1)}},
		{plan(7, 2, 3), []api.Share{of(2, 5)}, []int{3}, []api.Share{of(1, 4), of(2, 5), of(3, 6)}},
		{plan(7, 3, 4), []api.Share{of(1, 1)}, []int{1}, []api.Share{of(1, 1), of(2, 0), of(3, 5), of(4, 2)}},
		{plan(7, 3, 4), nil, nil, []api.Share{of(1), of(2), of(3), of(4)}},
		{plan(7, 3, 4), []api.Share{of(4), of(2)}, nil, []api.Share{of(1), of(2), of(3), of(4)}},
		{plan(2, 1, 1), nil, []int{1}, []api.Share{of(1, 1)}},
	} {
		if l, e := Explain(x.pl, x.known, x.secret); e != api.OK || !same(l, x.want) {
			t.Error("Explain", i, l, e)
		}
	}
}

func TestExplainErrors(t *testing.T) {
	pl := plan(7, 2, 4)
	many := make([]int, api.MaxElements+1)
	strange := append(slices.Clone(many), 7)
	for i, x := range []struct {
		pl     api.Plan
		known  []api.Share
		secret []int
		want   api.Errno
	}{
		{pl, []api.Share{of(1, 1)}, nil, api.ErrInvalid}, {pl, []api.Share{of(1)}, []int{1}, api.ErrInvalid}, {pl, []api.Share{of(1, 1)}, []int{1, 2}, api.ErrInvalid}, {pl, []api.Share{of(1, 1, 2)}, []int{1}, api.ErrInvalid},
		{pl, []api.Share{of(1, 1)}, []int{7, 7}, api.ErrInvalid}, {pl, []api.Share{of(1, 1), of(2, 1)}, []int{1, 1}, api.ErrInvalid}, {pl, []api.Share{of(1, 1)}, many, api.ErrInvalid}, {pl, []api.Share{of(1, many...)}, many, api.ErrInvalid},
		{pl, nil, []int{7}, api.ErrRange}, {pl, nil, []int{-1}, api.ErrRange}, {pl, nil, []int{0, 0, 7}, api.ErrRange}, {pl, nil, []int{math.MinInt}, api.ErrRange}, {pl, []api.Share{of(1, 1)}, []int{7}, api.ErrRange},
		{pl, []api.Share{of(1, 1), of(2, 1)}, []int{7}, api.ErrRange}, {pl, nil, strange, api.ErrRange}, {plan(7, 1, 4), []api.Share{of(1, 1)}, []int{-1}, api.ErrRange},
		{pl, []api.Share{of(1, 1), of(2, 1)}, []int{1}, api.ErrLimit}, {pl, []api.Share{of(1, 1), of(2, 1), of(3, 1), of(4, 1)}, []int{1}, api.ErrLimit}, {pl, []api.Share{of(1), of(2)}, nil, api.ErrLimit}, {plan(7, 1, 4), []api.Share{of(1, 1)}, []int{1}, api.ErrLimit}, {plan(7, 1, 4), []api.Share{of(1)}, nil, api.ErrLimit},
		{pl, nil, many, api.ErrLimit}, {plan(7, 1, 1), nil, many, api.ErrLimit}, {plan(7, 4, 4), nil, many, api.ErrLimit},
		{pl, []api.Share{of(1, many[1:]...), of(2, many[1:]...)}, many[1:], api.ErrLimit},
		{pl, nil, many[1:], api.OK}, {pl, []api.Share{of(1, many[1:]...)}, many[1:], api.OK}, {plan(7, 4, 4), []api.Share{of(4, 1), of(1, 1), of(2, 1)}, []int{1}, api.OK}, {pl, []api.Share{}, []int{}, api.OK},
	} {
		if l, e := Explain(x.pl, x.known, x.secret); e != x.want || e != api.OK && len(l) > 0 {
			t.Error("Explain", i, len(l), e)
		}
	}
	for i, known := range notGood() {
		for _, secret := range [][]int{nil, {1}, {7}, known[0].Values, many, strange} {
			if l, e := Explain(pl, known, secret); e != api.ErrInvalid || len(l) > 0 {
				t.Error("Explain", i, len(secret), len(l), e)
			}
		}
	}
	for _, pl := range notValid() {
		for _, known := range [][]api.Share{nil, {of(1, 0)}, {of(1, 0), of(2, 0), of(3, 0)}} {
			for _, secret := range [][]int{{0}, {-1}, many} {
				if l, e := Explain(pl, known, secret); e != api.ErrInvalid || len(l) > 0 {
					t.Error("Explain", pl, known, len(secret), len(l), e)
				}
			}
		}
	}
}

// The consequence: fewer than Need values come from equally many lists of random numbers, whatever the secret is.
func TestFewerSharesFitEverySecret(t *testing.T) {
	for _, pl := range smallPlans() {
		for holders := range orders(pl.Holders, pl.Need-1) {
			ways := map[[4]int]int{}
			for secret := range lists(pl.Prime, 1) {
				for random := range lists(pl.Prime, pl.Need-1) {
					l, _ := Deal(pl, secret, random)
					seen := [4]int{3: secret[0]}
					for i, s := range at(l, holders) {
						seen[i] = s.Values[0]
					}
					ways[seen]++
				}
			}
			want := 1
			for range pl.Need {
				want *= pl.Prime
			}
			for seen, n := range ways {
				if n != 1 || len(ways) != want {
					t.Error(pl, holders, seen, n, len(ways))
				}
			}
		}
	}
}

// P1, with rule 1

// valuesOf are the lists of numbers of all shares that the functions return for these.
func valuesOf(l, known []api.Share, secret, random []int) [][]int {
	var made [][]int
	add := func(l []api.Share) {
		for _, s := range l[:cap(l)] {
			made = append(made, s.Values)
		}
	}
	for _, need := range []int{1, 2} {
		pl := plan(7, need, 4)
		shares, _ := Deal(pl, secret, random[:Random(pl, len(secret))])
		add(shares)
		combined, _ := Combine(pl, l)
		made = append(made, combined)
		Fits(pl, l)
		sum, _ := Add(pl, l[0], l[0])
		add([]api.Share{sum, Scale(pl, l[1], 1)})
		shares, _ = Explain(pl, known[:need-1], secret)
		add(shares)
	}
	return made
}

func TestMemory(t *testing.T) {
	secret, random := []int{1, 2, 3, 77, 78}, []int{4, 5, 6, 77, 78}
	store := []int{0, 1, 2, 3, 4, 5, 6, 1, 2, 77, 78}
	l := []api.Share{{Holder: 3, Values: store[:3]}, {Holder: 1, Values: store[3:6]}, {Holder: 2, Values: store[6:9]}, {Holder: 99, Values: store[9:]}}
	before := slices.Clone(store)
	made := valuesOf(l[:3], l[:1], secret[:3], random[:3])
	if again := valuesOf(l[:3], l[:1], secret[:3], random[:3]); !slices.EqualFunc(made, again, slices.Equal[[]int]) {
		t.Error("two calls have different results")
	}
	for i, x := range made { // a result may be written to, with all of its memory, and only it changes
		others := slices.Concat(slices.Concat(made[:i]...), slices.Concat(made[i+1:]...))
		x = x[:cap(x)]
		for k := range x {
			x[k] = 99 + i
		}
		if now := slices.Concat(slices.Concat(made[:i]...), slices.Concat(made[i+1:]...)); !slices.Equal(now, others) {
			t.Error("results share memory", i)
		}
	}
	if !slices.Equal(store, before) || !slices.Equal(secret, []int{1, 2, 3, 77, 78}) || !slices.Equal(random, []int{4, 5, 6, 77, 78}) {
		t.Error("an argument was changed", store, secret, random)
	}
	for i, holder := range []int{3, 1, 2, 99} {
		if l[i].Holder != holder || len(l[i].Values) != []int{3, 3, 3, 2}[i] {
			t.Error("an argument was changed", l)
		}
	}
}

func TestNilIsEmpty(t *testing.T) {
	pl := plan(7, 2, 3)
	nils, empties := []api.Share{{Holder: 2}, {Holder: 1}}, []api.Share{{Holder: 2, Values: []int{}}, {Holder: 1, Values: []int{}}}
	for _, x := range [][]api.Share{nils, empties, {nils[0], empties[1]}} {
		if got, e := Combine(pl, x); e != api.OK || len(got) > 0 || !Fits(pl, x) {
			t.Error("nil and empty", got, e)
		}
		for _, secret := range [][]int{nil, {}} {
			if l, e := Explain(pl, x[:1], secret); e != api.OK || len(l) != 3 {
				t.Error("nil and empty", l, e)
			}
		}
	}
	if got, e := Add(pl, nils[0], empties[0]); e != api.OK || got.Holder != 2 || len(got.Values) > 0 {
		t.Error("nil and empty", got, e)
	}
	for _, x := range [][2][]int{{nil, nil}, {nil, {}}, {{}, nil}, {{}, {}}} {
		if l, e := Deal(pl, x[0], x[1]); e != api.OK || !same(l, []api.Share{of(1), of(2), of(3)}) {
			t.Error("nil and empty", l, e)
		}
	}
	for _, known := range [][]api.Share{nil, {}} {
		if l, e := Explain(pl, known, []int{3}); e != api.OK || len(l) != 3 {
			t.Error("nil and empty", l, e)
		}
	}
}

// strange are numbers that are no permitted primes, no elements, no holders, or lead to sums that do not fit.
var strange = []int{math.MinInt, math.MinInt + 1, -1 << 32, -2, -1, 0, 1, 2, 3, 7, 16, 17, api.MaxElements, api.Prime, api.MaxPrime, 1 << 32, 1 << 62, math.MaxInt - 1, math.MaxInt}

func TestNothingPanics(t *testing.T) {
	for _, p := range strange {
		for _, need := range strange {
			for _, holders := range strange {
				pl := plan(p, need, holders)
				if Valid(pl) && (need > 16 || holders > 16) {
					t.Error("Valid", pl)
				}
				for _, x := range strange {
					l := []api.Share{of(1, x), of(x, 1), of(2, strange...), {Holder: x}}
					Random(pl, x)
					Deal(pl, []int{x}, strange)
					Deal(pl, strange, []int{x})
					Scale(pl, l[0], x)
					Scale(pl, l[2], x)
					for i := range l {
						Combine(pl, l[i:])
						Fits(pl, l[:i])
						Add(pl, l[i], l[0])
						Explain(pl, l[:i], []int{x})
					}
				}
			}
		}
	}
}
