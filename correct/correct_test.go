package correct

import (
	"crypto/sha256"
	"encoding/binary"
	"iter"
	"math"
	"math/big"
	"slices"
	"testing"

	"reportescrow/api"
	"reportescrow/poly"
	"reportescrow/share"
)

// great are primes for which products come near 2^60.
var great = []int{65537, api.Prime, 1073741783, 1073741789}

func plan(p, need, holders int) api.Plan {
	return api.Plan{Prime: p, Need: need, Holders: holders}
}

func of(holder int, values ...int) api.Share { return api.Share{Holder: holder, Values: values} }

func same(a, b []api.Share) bool {
	return slices.EqualFunc(a, b, func(x, y api.Share) bool { return x.Holder == y.Holder && slices.Equal(x.Values, y.Values) })
}

// lists gives all lists of so many numbers from 0 to p - 1.
func lists(p, length int) iter.Seq[[]int] {
	return func(yield func([]int) bool) {
		count := 1
		for range length {
			count *= p
		}
		for n := range count {
			l := make([]int, length)
			for i := range l {
				l[i] = n % p
				n /= p
			}
			if !yield(l) {
				return
			}
		}
	}
}

// parts gives all lists of so many numbers from 0 to most - 1, ascending.
func parts(most, length int) iter.Seq[[]int] {
	return func(yield func([]int) bool) {
		l := make([]int, length)
		for i := range l {
			l[i] = i
		}
		for length <= most && yield(slices.Clone(l)) {
			i := length - 1
			for i >= 0 && l[i] == most-length+i {
				i--
			}
			if i < 0 {
				return
			}
			l[i]++
			for k := i + 1; k < length; k++ {
				l[k] = l[k-1] + 1
			}
		}
	}
}

// spread are so many elements of the field of p without an order.
func spread(p, length, seed int) []int {
	l := make([]int, length)
	for i := range l {
		l[i] = int(uint64(seed*100000+i+1) * 0x9E3779B97F4A7C15 >> 3 % uint64(p))
	}
	return l
}

// exact is the value of a polynomial at x. All numbers are less than 2^30, so that none here is too great.
func exact(p int, f []int, x int) int {
	sum := 0
	for _, c := range slices.Backward(f) {
		sum = (sum*x + c) % p
	}
	return sum
}

func valuesAt(p int, f, xs []int) []int {
	var ys []int
	for _, x := range xs {
		ys = append(ys, exact(p, f, x))
	}
	return ys
}

// had is how many of the points a polynomial has.
func had(p int, f, xs, ys []int) int {
	n := 0
	for i, x := range xs {
		if exact(p, f, x) == ys[i] {
			n++
		}
	}
	return n
}

func short(f []int) []int {
	for len(f) > 0 && f[len(f)-1] == 0 {
		f = f[:len(f)-1]
	}
	return f
}

// allHaving are all polynomials of degree less than need with at least so many points, short, found by trying all that there are.
func allHaving(p, need, least int, xs, ys []int) [][]int {
	var found [][]int
	for f := range lists(p, need) {
		if had(p, f, xs, ys) >= least {
			found = append(found, short(f))
		}
	}
	return found
}

// searched are the same for great fields, where the polynomials through each need of the points are tried.
func searched(p, need, least int, xs, ys []int) [][]int {
	var found [][]int
	for part := range parts(len(xs), need) {
		var px, py []int
		for _, i := range part {
			px, py = append(px, xs[i]), append(py, ys[i])
		}
		f, _ := poly.Through(p, px, py)
		is := func(g []int) bool { return slices.Equal(g, f) }
		if had(p, f, xs, ys) >= least && !slices.ContainsFunc(found, is) {
			found = append(found, f)
		}
	}
	return found
}

// P7.1: Room

func TestRoom(t *testing.T) {
	for need := -5; need <= 20; need++ {
		for shares := -5; shares <= 20; shares++ {
			want := -1
			for wrong := 0; need+2*wrong <= shares; wrong++ {
				want = wrong
			}
			for _, pl := range []api.Plan{plan(api.Prime, need, 16), plan(0, need, 0), plan(7, need, 3)} {
				if got := Room(pl, shares); got != want {
					t.Error("Room", pl, shares, got, want)
				}
			}
		}
	}
}

func TestRoomOfAnyNumbers(t *testing.T) {
	for _, need := range strange {
		for _, shares := range strange {
			want := big.NewInt(-1)
			if shares >= need {
				want.Sub(big.NewInt(int64(shares)), big.NewInt(int64(need))).Rsh(want, 1)
			}
			if got := Room(plan(7, need, 3), shares); want.Cmp(big.NewInt(int64(got))) != 0 {
				t.Error("Room", need, shares, got, want)
			}
		}
	}
}

// P7.1: One

// checkOneOf compares One with all polynomials that it may return, which are one at most.
func checkOneOf(t *testing.T, p, need, lies int, xs, ys []int, all [][]int) {
	got, e := One(p, need, lies, xs, ys)
	switch {
	case len(all) > 1:
		t.Error("two polynomials", p, need, lies, xs, ys, all)
	case len(all) == 0 && (e != api.ErrLies || len(got) > 0):
		t.Error("One", p, need, lies, xs, ys, got, e)
	case len(all) == 1 && (e != api.OK || !slices.Equal(got, all[0])):
		t.Error("One", p, need, lies, xs, ys, got, e, all)
	}
}

// The consequence that One has at most one polynomial to return is checked here, too.
func TestOneOfAllSmall(t *testing.T) {
	found := map[api.Errno]int{}
	for _, x := range []struct {
		p  int
		xs []int
	}{{2, []int{0}}, {2, []int{1, 0}}, {3, []int{2}}, {3, []int{0, 2}}, {3, []int{1, 2, 0}}, {5, []int{3}}, {5, []int{4, 0}}, {5, []int{0, 1, 2}}, {5, []int{4, 1, 3}}, {5, []int{1, 2, 3, 4}}, {5, []int{2, 4, 0, 3}}, {5, []int{0, 1, 2, 3, 4}}, {7, []int{6, 0, 3}}, {7, []int{1, 5, 2, 6}}} {
		n := len(x.xs)
		for ys := range lists(x.p, n) {
			for need := 1; need <= min(n, 4); need++ {
				for lies := 0; need+2*lies <= n; lies++ {
					all := allHaving(x.p, need, n-lies, x.xs, ys)
					checkOneOf(t, x.p, need, lies, x.xs, ys, all)
					_, e := One(x.p, need, lies, x.xs, ys)
					found[e]++
				}
			}
		}
	}
	if found[api.OK] < 1000 || found[api.ErrLies] < 1000 || len(found) != 2 {
		t.Error("the points are not of both kinds", found)
	}
}

func TestOneOfSmallWithManyPoints(t *testing.T) {
	for _, p := range []int{7, 11} {
		for n := 5; n <= p; n++ {
			for seed := range 60 {
				need := 1 + seed%3
				xs := slices.Clone(spread(p, n, seed))
				for i := range xs { // different places: from a number on, by steps
					xs[i] = (seed + i*(1+seed%(p-1))) % p
				}
				ys := valuesAt(p, spread(p, need, seed+100), xs)
				for k, by := range spread(p, seed%(n-1), seed+200) {
					ys[(seed+k)%n] = (ys[(seed+k)%n] + by) % p
				}
				for lies := 0; need+2*lies <= n; lies++ {
					checkOneOf(t, p, need, lies, xs, ys, allHaving(p, need, n-lies, xs, ys))
				}
			}
		}
	}
}

// places are so many different ones, in no order, with and without 0 among them.
func places(p, n, seed int) []int {
	switch seed % 3 {
	case 0:
		l := make([]int, n)
		for i := range l {
			l[i] = i + 1
		}
		return l
	case 1:
		l := make([]int, n)
		for i := range l {
			l[i] = (p - 1 - i*977) % p
		}
		return l
	}
	l := make([]int, n)
	for i := range l {
		l[i] = i * 7 % 17
	}
	return l
}

// With as many wrong points as lies, One is the polynomial of which the others are; with one more, it is none.
func TestOneOfGreat(t *testing.T) {
	seed := 0
	for _, p := range great {
		for n := 1; n <= 16; n++ {
			for need := 1; need <= n; need++ {
				room := (n - need) / 2
				for _, wrong := range []int{0, 1, room / 2, room, room + 1, n - need} {
					if wrong > n-need {
						continue
					}
					seed++
					f := spread(p, need, seed)
					f = short(f[:need-seed%2*(seed/2%need)]) // of lesser degree, too
					xs := places(p, n, seed)
					ys := valuesAt(p, f, xs)
					for k := range wrong {
						at := (seed + 5*k) % n
						if n%5 == 0 {
							at = (seed + 7*k) % n
						}
						ys[at] = (ys[at] + 1 + spread(p-1, 1, seed+k)[0]) % p
					}
					for lies := range room + 1 {
						got, e := One(p, need, lies, xs, ys)
						if wrong <= lies && (e != api.OK || !slices.Equal(got, f)) || wrong > lies && (e != api.ErrLies || len(got) > 0) {
							t.Error("One", p, need, lies, wrong, xs, ys, got, e)
						}
					}
				}
			}
		}
	}
}

// Those who lie may agree on another polynomial, and One then returns it if it has enough points.
func TestOneOfLiesThatAgree(t *testing.T) {
	for _, p := range great {
		for _, x := range []struct{ n, need int }{{3, 1}, {7, 3}, {8, 3}, {9, 2}, {10, 4}, {12, 2}, {16, 2}, {16, 3}, {11, 5}} {
			xs := places(p, x.n, x.need+1)
			f := spread(p, x.need, x.n)
			for liars := range x.n + 1 {
				g := slices.Clone(f) // it has the same values at need - 1 places
				for i, c := range product(p, xs[:x.need-1]) {
					g[i] = (g[i] + c) % p
				}
				ys := valuesAt(p, f, xs)
				copy(ys[x.n-liars:], valuesAt(p, g, xs)[x.n-liars:])
				for lies := 0; x.need+2*lies <= x.n; lies++ {
					checkOneOf(t, p, x.need, lies, xs, ys, searched(p, x.need, x.n-lies, xs, ys))
				}
			}
		}
	}
}

// product is the least polynomial with a zero at each place.
func product(p int, xs []int) []int {
	f := []int{1}
	for _, x := range xs {
		f = append([]int{0}, f...)
		for i, c := range f[1:] {
			f[i] = (f[i] + c*(p-x)) % p
		}
	}
	return f
}

func TestOneOfPointsWithoutOrder(t *testing.T) {
	for seed, x := range []struct{ n, need int }{{1, 1}, {2, 1}, {3, 1}, {3, 2}, {5, 2}, {6, 3}, {7, 1}, {8, 8}, {9, 3}, {12, 4}, {16, 3}} {
		for _, p := range great {
			xs, ys := places(p, x.n, seed), spread(p, x.n, seed)
			for lies := 0; x.need+2*lies <= x.n; lies++ {
				checkOneOf(t, p, x.need, lies, xs, ys, searched(p, x.need, x.n-lies, xs, ys))
			}
		}
	}
}

func TestOneExamples(t *testing.T) {
	for i, x := range []struct {
		p, need, lies int
		xs, ys        []int
		want          []int
		e             api.Errno
	}{
		{7, 2, 0, []int{1, 2}, []int{2, 3}, []int{1, 1}, api.OK},
		{7, 2, 0, []int{1, 2, 3}, []int{2, 3, 4}, []int{1, 1}, api.OK},
		{7, 2, 0, []int{1, 2, 3}, []int{2, 3, 5}, nil, api.ErrLies},
		{7, 2, 1, []int{1, 2, 3, 4}, []int{2, 3, 5, 5}, []int{1, 1}, api.OK},
		{7, 2, 1, []int{0, 1, 2, 3}, []int{0, 1, 5, 6}, nil, api.ErrLies}, // two lines, of two points each
		{7, 3, 0, []int{0, 1, 2, 3}, []int{0, 1, 4, 2}, []int{0, 0, 1}, api.OK},
		{7, 2, 1, []int{0, 1, 2, 3}, []int{0, 1, 4, 2}, nil, api.ErrLies}, // all have a polynomial, of too great a degree
		{7, 3, 0, []int{0, 1, 2, 3}, []int{1, 1, 1, 1}, []int{1}, api.OK},
		{7, 1, 1, []int{0, 1, 2}, []int{0, 5, 0}, nil, api.OK}, // the polynomial 0
		{7, 1, 1, []int{0, 1, 2}, []int{0, 5, 1}, nil, api.ErrLies},
		{7, 1, 3, []int{0, 1, 2, 3, 4, 5, 6}, []int{1, 5, 5, 2, 5, 3, 5}, []int{5}, api.OK},
		{7, 1, 2, []int{0, 1, 2, 3, 4, 5, 6}, []int{1, 5, 5, 2, 5, 3, 5}, nil, api.ErrLies}, // fewer lies than there may be
		{2, 1, 0, []int{1}, []int{1}, []int{1}, api.OK},
		{2, 2, 0, []int{0, 1}, []int{0, 1}, []int{0, 1}, api.OK},
		{3, 1, 1, []int{0, 1, 2}, []int{2, 2, 0}, []int{2}, api.OK},
	} {
		if got, e := One(x.p, x.need, x.lies, x.xs, x.ys); e != x.e || !slices.Equal(got, x.want) {
			t.Error("One", i, got, e)
		}
	}
}

func upTo(n int) []int {
	l := make([]int, n)
	for i := range l {
		l[i] = i
	}
	return l
}

func TestOneErrors(t *testing.T) {
	l, far := upTo(17), make([]int, 17)
	for i, x := range []struct {
		p, need, lies int
		xs, ys        []int
		want          api.Errno
	}{
		// no permitted prime, though little else is right
		{8, 1, 0, l[:3], far[:3], api.ErrInvalid}, {1, 1, 0, far[:1], far[:1], api.ErrInvalid}, {0, 1, 0, nil, nil, api.ErrInvalid}, {-7, 1, 0, l[:3], l[:3], api.ErrInvalid}, {9, 4, 1, l[:3], l[:3], api.ErrInvalid}, {1073741827, 1, 0, l[:3], l[:3], api.ErrInvalid}, {math.MaxInt, 1, 0, l[:3], l[:3], api.ErrInvalid}, {math.MinInt, 1, 0, l[:3], l[:3], api.ErrInvalid},
		// need and lies
		{7, 0, 0, l[:3], far[:3], api.ErrInvalid}, {7, -1, 0, l[:3], far[:3], api.ErrInvalid}, {7, 0, 0, nil, nil, api.ErrInvalid}, {7, 0, 9, l[:3], far[:3], api.ErrInvalid}, {7, math.MinInt, 0, l[:3], far[:3], api.ErrInvalid}, {7, math.MinInt, math.MaxInt, l[:3], far[:3], api.ErrInvalid},
		{7, 1, -1, l[:3], far[:3], api.ErrInvalid}, {7, 5, -1, l[:3], far[:3], api.ErrInvalid}, {7, 1, -1, nil, nil, api.ErrInvalid}, {7, 1, math.MinInt, l[:3], far[:3], api.ErrInvalid}, {7, 4, math.MinInt, l[:3], far[:3], api.ErrInvalid},
		// lengths
		{7, 1, 0, l[:3], far[:2], api.ErrInvalid}, {7, 1, 0, l[:2], far[:3], api.ErrInvalid}, {7, 1, 0, nil, far[:1], api.ErrInvalid}, {7, 1, 0, l[:1], nil, api.ErrInvalid}, {7, 3, 1, l[:1], nil, api.ErrInvalid},
		{31, 1, 0, l, far, api.ErrInvalid}, {31, 18, 0, l, far, api.ErrInvalid}, {31, 1, 0, l[:16], far, api.ErrInvalid}, {31, 1, 0, l, far[:16], api.ErrInvalid}, {31, 1, 0, l[:16], far[:16], api.OK}, {31, 16, 0, l[1:], l[1:], api.OK},
		// numbers that are no elements
		{7, 1, 0, []int{7}, []int{1}, api.ErrInvalid}, {7, 1, 0, []int{-1}, []int{1}, api.ErrInvalid}, {7, 1, 0, []int{1, 2, 8}, far[:3], api.ErrInvalid}, {7, 5, 0, []int{1, 2, -7}, far[:3], api.ErrInvalid}, {7, 1, 0, []int{math.MaxInt}, []int{1}, api.ErrInvalid}, {7, 1, 0, []int{math.MinInt}, []int{1}, api.ErrInvalid},
		{7, 1, 0, []int{1}, []int{7}, api.ErrInvalid}, {7, 1, 0, []int{1}, []int{-1}, api.ErrInvalid}, {7, 1, 1, []int{1, 2, 3}, []int{0, 0, 7}, api.ErrInvalid}, {7, 1, 2, []int{1, 2, 3}, []int{-1, 0, 0}, api.ErrInvalid}, {7, 1, 0, []int{1}, []int{math.MaxInt}, api.ErrInvalid}, {7, 1, 0, []int{1}, []int{math.MinInt}, api.ErrInvalid},
		{api.Prime, 1, 0, []int{api.Prime}, []int{1}, api.ErrInvalid}, {api.Prime, 1, 0, []int{api.Prime - 1}, []int{api.Prime}, api.ErrInvalid}, {api.Prime, 1, 0, []int{api.Prime - 1}, []int{api.Prime - 1}, api.OK},
		// places that occur twice
		{7, 1, 0, []int{1, 1}, []int{1, 1}, api.ErrInvalid}, {7, 1, 0, []int{1, 1}, []int{1, 2}, api.ErrInvalid}, {7, 1, 1, []int{3, 1, 2, 3}, far[:4], api.ErrInvalid}, {7, 5, 1, []int{3, 1, 2, 3}, far[:4], api.ErrInvalid}, {2, 1, 1, []int{0, 1, 0}, far[:3], api.ErrInvalid}, {7, 2, 0, []int{0, 0, 1, 2}, []int{0, 1, 3, 3}, api.ErrInvalid},
		// fewer points
		{7, 1, 0, nil, nil, api.ErrMissing}, {7, 2, 0, l[:1], far[:1], api.ErrMissing}, {7, 4, 0, l[:3], []int{1, 2, 4}, api.ErrMissing}, {7, 1, 1, l[:2], far[:2], api.ErrMissing}, {7, 2, 1, l[:3], []int{0, 1, 0}, api.ErrMissing}, {7, 2, 1, l[:4], far[:4], api.OK}, {7, 3, 2, l[:6], far[:6], api.ErrMissing}, {7, 3, 2, l[:7], far[:7], api.OK}, {17, 2, 8, l[:16], far[:16], api.ErrMissing}, {17, 2, 7, l[:16], far[:16], api.OK}, {17, 17, 0, l[:16], far[:16], api.ErrMissing}, {17, 16, 0, l[:16], far[:16], api.OK},
		{7, 1, 1 << 62, l[:1], far[:1], api.ErrMissing}, {7, 1, 1 << 63 >> 1 & math.MaxInt, l[:1], far[:1], api.ErrMissing}, {7, 1 << 62, 1 << 62, l[:1], far[:1], api.ErrMissing}, {7, math.MaxInt, math.MaxInt, l[:1], far[:1], api.ErrMissing}, {7, math.MaxInt, 0, l[:1], far[:1], api.ErrMissing}, {7, 2, math.MaxInt, l[:3], far[:3], api.ErrMissing}, {7, math.MaxInt, 1, l[:3], far[:3], api.ErrMissing},
	} {
		if got, e := One(x.p, x.need, x.lies, x.xs, x.ys); e != x.want || e != api.OK && len(got) > 0 {
			t.Error("One", i, got, e)
		}
	}
}

// P7.2: Robust

// robust is Robust for good lists, by trying: each element by searched, the secret and the wrong holders.
func robust(pl api.Plan, l []api.Share) ([]int, []int, api.Errno) {
	room := (len(l) - pl.Need) / 2
	var secret, wrong []int
	for i := range l[0].Values {
		var xs, ys []int
		for _, s := range l {
			xs, ys = append(xs, s.Holder), append(ys, s.Values[i])
		}
		all := searched(pl.Prime, pl.Need, len(l)-room, xs, ys)
		if len(all) != 1 {
			return nil, nil, api.ErrLies
		}
		secret = append(secret, exact(pl.Prime, all[0], 0))
		for k, x := range xs {
			if exact(pl.Prime, all[0], x) != ys[k] {
				wrong = append(wrong, x)
			}
		}
	}
	slices.Sort(wrong)
	wrong = slices.Compact(wrong)
	if len(wrong) > room {
		return nil, nil, api.ErrLies
	}
	return secret, wrong, api.OK
}

func checkRobust(t *testing.T, pl api.Plan, l []api.Share) api.Errno {
	secret, wrong, want := robust(pl, l)
	gotSecret, gotWrong, e := Robust(pl, l)
	if e != want || !slices.Equal(gotSecret, secret) || !slices.Equal(gotWrong, wrong) {
		t.Error("Robust", pl, l, gotSecret, gotWrong, e, "and not", secret, wrong, want)
	}
	return want
}

func TestRobustOfAllSmall(t *testing.T) {
	found := map[api.Errno]int{}
	for _, pl := range []api.Plan{plan(2, 1, 1), plan(3, 1, 2), plan(3, 2, 2), plan(5, 1, 4), plan(5, 2, 4), plan(5, 3, 4), plan(5, 4, 4)} {
		for values := range lists(pl.Prime, pl.Holders) {
			var l []api.Share
			for i, v := range values {
				l = append([]api.Share{of(i+1, v)}, l...)
			}
			for length := pl.Need; length <= pl.Holders; length++ {
				found[checkRobust(t, pl, l[:length])]++
			}
		}
	}
	for values := range lists(3, 4) { // two elements of two holders
		found[checkRobust(t, plan(3, 1, 2), []api.Share{of(2, values[:2]...), of(1, values[2:]...)})]++
	}
	for values := range lists(5, 6) { // and of three
		found[checkRobust(t, plan(5, 1, 4), []api.Share{of(4, values[:2]...), of(1, values[2:4]...), of(3, values[4:]...)})]++
	}
	if found[api.OK] < 500 || found[api.ErrLies] < 500 || len(found) != 2 {
		t.Error("the shares are not of both kinds", found)
	}
}

// dealt are shares of holders in no order.
func dealt(pl api.Plan, secret []int, seed int) []api.Share {
	l, _ := share.Deal(pl, secret, spread(pl.Prime, share.Random(pl, len(secret)), seed))
	for i := range l {
		k := i + seed%(len(l)-i)
		l[i], l[k] = l[k], l[i]
	}
	return l
}

// spoil changes one value of a share, or all of them.
func spoil(p int, s api.Share, seed int) api.Share {
	values := slices.Clone(s.Values)
	if n := len(values); n > 0 {
		values[seed%n] = (values[seed%n] + 1 + seed%(p-1)) % p
		for i := range values {
			if seed%3 == 0 {
				values[i] = (values[i] + 1 + (seed+i)%(p-1)) % p
			}
		}
	}
	return of(s.Holder, values...)
}

// The consequence: with at most Room wrong shares, whichever they are, Robust returns the secret and just these holders.
func TestRobustOfAtMostRoomLies(t *testing.T) {
	seed := 0
	for _, pl := range []api.Plan{plan(5, 2, 4), plan(7, 1, 5), plan(11, 3, 7), plan(17, 2, 16), plan(65537, 3, 7), plan(api.Prime, 3, 7), plan(api.Prime, 2, 9), plan(1073741789, 1, 8), plan(1073741783, 4, 10), plan(api.Prime, 9, 9)} {
		for length := pl.Need; length <= pl.Holders; length++ {
			for wrong := range min(Room(pl, length), 4) + 1 {
				for part := range parts(length, wrong) {
					seed++
					count := 1 + seed%4
					secret := spread(pl.Prime, count, seed)
					l := dealt(pl, secret, seed)[:length]
					var liars []int
					for _, i := range part {
						l[i] = spoil(pl.Prime, l[i], seed+i)
						liars = append(liars, l[i].Holder)
					}
					slices.Sort(liars)
					if got, gotLiars, e := Robust(pl, l); e != api.OK || !slices.Equal(got, secret) || !slices.Equal(gotLiars, liars) {
						t.Error("Robust", pl, length, liars, got, gotLiars, e)
					}
				}
			}
		}
	}
}

// With more wrong shares than Room, it is as the definition says: ErrLies, or another secret that fits.
func TestRobustOfMoreLies(t *testing.T) {
	found := map[api.Errno]int{}
	for seed := range 300 {
		pl := []api.Plan{plan(5, 2, 4), plan(7, 1, 5), plan(7, 3, 6), plan(11, 3, 7), plan(api.Prime, 3, 7), plan(65537, 2, 6)}[seed%6]
		l := dealt(pl, spread(pl.Prime, 1+seed%3, seed), seed)
		for i := range 1 + seed/6%len(l) {
			l[i] = spoil(pl.Prime, l[i], seed+7*i)
		}
		found[checkRobust(t, pl, l)]++
	}
	if found[api.OK] < 50 || found[api.ErrLies] < 50 {
		t.Error("the lists are not of both kinds", found)
	}
}

// Each element may have its own liars, if they are at most Room in all.
func TestRobustOfLiesInDifferentElements(t *testing.T) {
	pl := plan(api.Prime, 3, 7)
	secret := []int{1, 0, api.Prime - 1, 5}
	for i, x := range []struct {
		spoiled [][2]int // holder, element
		liars   []int
		want    api.Errno
	}{
		{nil, nil, api.OK},
		{[][2]int{{7, 0}, {2, 2}}, []int{2, 7}, api.OK},
		{[][2]int{{4, 1}, {4, 2}, {4, 3}}, []int{4}, api.OK},
		{[][2]int{{5, 0}, {1, 0}, {5, 3}}, []int{1, 5}, api.OK},
		{[][2]int{{1, 0}, {2, 1}, {3, 2}}, nil, api.ErrLies},
		{[][2]int{{1, 0}, {2, 0}, {3, 3}}, nil, api.ErrLies},
		{[][2]int{{1, 0}, {2, 0}, {1, 3}, {6, 3}}, nil, api.ErrLies},
		{[][2]int{{1, 3}, {2, 3}, {3, 3}}, nil, api.ErrLies},
		{[][2]int{{1, 0}, {2, 1}, {3, 2}, {4, 3}, {5, 0}, {6, 1}, {7, 2}}, nil, api.ErrLies},
	} {
		l, _ := share.Deal(pl, secret, spread(pl.Prime, 8, i))
		for _, at := range x.spoiled {
			l[at[0]-1].Values[at[1]] = (l[at[0]-1].Values[at[1]] + 5) % pl.Prime
		}
		got, liars, e := Robust(pl, l)
		if e != x.want || !slices.Equal(liars, x.liars) || e == api.OK && !slices.Equal(got, secret) || e != api.OK && len(got) > 0 {
			t.Error("Robust", i, got, liars, e)
		}
	}
}

func TestRobustExamples(t *testing.T) {
	pl := plan(7, 2, 4)
	full := slices.Repeat([]int{6}, api.MaxElements)
	for i, x := range []struct {
		pl            api.Plan
		l             []api.Share
		secret, liars []int
		want          api.Errno
	}{
		{pl, []api.Share{of(1, 4), of(2, 5), of(3, 6), of(4, 0)}, []int{3}, nil, api.OK},
		{pl, []api.Share{of(1, 4), of(2, 5), of(3, 1), of(4, 0)}, []int{3}, []int{3}, api.OK},
		{pl, []api.Share{of(4, 1), of(3, 6), of(2, 5), of(1, 4)}, []int{3}, []int{4}, api.OK},
		{pl, []api.Share{of(1, 4), of(2, 5), of(4, 0)}, []int{3}, nil, api.OK},
		{pl, []api.Share{of(1, 4), of(2, 5), of(4, 1)}, nil, nil, api.ErrLies},
		{pl, []api.Share{of(1, 4), of(3, 0)}, []int{6}, nil, api.OK},
		{pl, []api.Share{of(1), of(3)}, nil, nil, api.OK},
		{pl, []api.Share{of(4), of(1), of(2), of(3)}, nil, nil, api.OK},
		{plan(7, 1, 3), []api.Share{of(2, 0, 3), of(3, 0, 2), of(1, 0, 3)}, []int{0, 3}, []int{3}, api.OK},
		{plan(7, 1, 3), []api.Share{of(2, 0, 3), of(3, 0, 2), of(1, 1, 3)}, nil, nil, api.ErrLies},
		{plan(7, 1, 3), []api.Share{of(3, 5)}, []int{5}, nil, api.OK},
		{plan(7, 1, 1), []api.Share{of(1, full...)}, full, nil, api.OK},
		{plan(7, 1, 3), []api.Share{of(1, full...), of(3, make([]int, api.MaxElements)...), of(2, full...)}, full, []int{3}, api.OK},
	} {
		if secret, liars, e := Robust(x.pl, x.l); e != x.want || !slices.Equal(secret, x.secret) || !slices.Equal(liars, x.liars) {
			t.Error("Robust", i, secret, liars, e)
		}
	}
}

func TestRobustOfAllThatIsShared(t *testing.T) {
	pl := plan(api.Prime, 2, 16)
	secret := spread(api.Prime, api.MaxElements, 1)
	l := dealt(pl, secret, 2)
	var liars []int
	for i := range 7 {
		l[2*i] = spoil(pl.Prime, l[2*i], 3*i)
		liars = append(liars, l[2*i].Holder)
	}
	slices.Sort(liars)
	if got, gotLiars, e := Robust(pl, l); e != api.OK || !slices.Equal(got, secret) || !slices.Equal(gotLiars, liars) {
		t.Error("Robust", len(got), gotLiars, e)
	}
	l[1] = spoil(pl.Prime, l[1], 1)
	if got, gotLiars, e := Robust(pl, l); e != api.ErrLies || len(got) > 0 || len(gotLiars) > 0 {
		t.Error("Robust", len(got), gotLiars, e)
	}
}

// notGood are lists that are not good in plan(7, 2, 4), with and without Need shares.
func notGood() [][]api.Share {
	many := make([]int, api.MaxElements+1)
	return [][]api.Share{
		{of(0)}, {of(5)}, {of(-1)}, {of(math.MinInt)}, {of(math.MaxInt)}, {of(5, 1)}, {{}},
		{of(1, 7)}, {of(1, -1)}, {of(1, 0, 0, 7)}, {of(1, math.MinInt)}, {of(1, math.MaxInt)},
		{of(1, 1), of(2, 7)}, {of(1, 1), of(5, 1)}, {of(0, 1), of(1, 1)}, {of(1, 1), of(2, 1), of(3, -1)}, {of(1, 1), of(2, 1), of(5, 1)}, {of(1, 1), of(2, 2), of(3, 4), of(0, 1)},
		{of(1, 1), of(1, 1)}, {of(1), of(1)}, {of(4, 1), of(2, 1), of(3, 1), of(4, 1)}, {of(1, 1), of(2, 1), of(3, 1), of(4, 1), of(1, 1)},
		{of(1, 1), of(2)}, {of(1), of(2, 1)}, {of(1, 1, 1), of(2, 1)}, {of(1, 1), of(2, 1), of(3, 1, 1)}, {of(1, 0), of(2, 0), of(3, 0), of(4)},
		{of(1, many...)}, {of(1, many...), of(2, many...)}, {of(1, 1), of(2, many...)},
	}
}

func TestRobustErrors(t *testing.T) {
	for i, l := range notGood() {
		if secret, liars, e := Robust(plan(7, 2, 4), l); e != api.ErrInvalid || len(secret)+len(liars) > 0 {
			t.Error("Robust", i, secret, liars, e)
		}
	}
	for _, pl := range []api.Plan{{}, plan(8, 1, 1), plan(1, 1, 1), plan(7, 0, 3), plan(7, -1, 3), plan(7, 4, 3), plan(7, 1, 7), plan(api.Prime, 1, 17), plan(math.MaxInt, 1, 1), plan(api.Prime, math.MinInt, math.MaxInt)} {
		for _, l := range [][]api.Share{nil, {of(1)}, {of(1, 0)}, {of(1, 0), of(2, 0), of(3, 0)}, {of(1, 0), of(2, 1), of(3, 2)}} {
			if secret, liars, e := Robust(pl, l); e != api.ErrInvalid || len(secret)+len(liars) > 0 {
				t.Error("Robust", pl, l, secret, liars, e)
			}
		}
	}
	for _, need := range []int{1, 2, 9, 16} {
		l := dealt(plan(17, need, 16), []int{3}, need)
		for length := range l {
			want := api.OK
			if length < need {
				want = api.ErrMissing
			}
			if secret, liars, e := Robust(plan(17, need, 16), l[:length]); e != want || len(liars) > 0 || e == api.OK && !slices.Equal(secret, []int{3}) || e != api.OK && len(secret) > 0 {
				t.Error("Robust", need, length, secret, liars, e)
			}
		}
	}
	for _, l := range [][]api.Share{nil, {}, {of(1)}, {of(4, 6, 0)}, {of(2, make([]int, api.MaxElements)...)}} {
		if secret, liars, e := Robust(plan(7, 2, 4), l); e != api.ErrMissing || len(secret)+len(liars) > 0 {
			t.Error("Robust", secret, liars, e)
		}
	}
}

// P7.3: Mark

// written are the bytes of numbers as chapter 4 says, by the varints of Go's library.
func written(l ...int) string {
	var b []byte
	for _, n := range l {
		b = binary.AppendVarint(b, int64(n))
	}
	return string(b)
}

func TestMark(t *testing.T) {
	for _, holder := range strange {
		for _, values := range [][]int{nil, {}, {5}, {5, 6}, {0, 0, 0}, strange, spread(api.Prime, api.MaxElements, 1)} {
			sum := sha256.Sum256([]byte(written(append([]int{holder, len(values)}, values...)...)))
			if got := Mark(of(holder, values...)); got != string(sum[:]) {
				t.Errorf("Mark of %d, %d values: %x", holder, len(values), got)
			}
		}
	}
	if Mark(of(1, 2)) == Mark(of(2, 1)) || Mark(of(1)) == Mark(of(1, 0)) || Mark(of(1, 2, 3)) == Mark(of(1, 3, 2)) {
		t.Error("different shares have the same mark")
	}
}

// P7.3: Marked

func TestMarked(t *testing.T) {
	a, b, c := of(1, 5, 6), of(2), of(3, 0)
	marks := []string{Mark(a), Mark(b), Mark(c)}
	for i, x := range []struct {
		l     []api.Share
		marks []string
		want  []api.Share
	}{
		{nil, nil, nil}, {nil, marks, nil}, {[]api.Share{a, b, c}, nil, nil},
		{[]api.Share{a, b, c}, marks, []api.Share{a, b, c}},
		{[]api.Share{c, a, b}, marks, []api.Share{c, a, b}},
		{[]api.Share{c, b, a}, marks[:2], []api.Share{b, a}},
		{[]api.Share{c, b, a}, marks[:1], []api.Share{a}},
		{[]api.Share{a, a, b, a}, marks, []api.Share{a, a, b, a}}, // nothing says that it is there once
		{[]api.Share{of(1, 5, 7), of(1, 5), of(1), a, of(1, 6, 5)}, marks, []api.Share{a}},
		{[]api.Share{of(2, 5, 6), of(1), of(3), of(2, 0), of(1, 0)}, marks, nil}, // the values of others
		{[]api.Share{a, b, c}, []string{marks[1], marks[2], marks[0]}, nil},
		{[]api.Share{a, b, c}, []string{marks[1], marks[1], marks[1]}, []api.Share{b}},
		{[]api.Share{a, b, c}, []string{"", "x", marks[2]}, []api.Share{c}},
		{[]api.Share{a, b, c}, []string{marks[0][:31], marks[1] + "\x00", marks[2]}, []api.Share{c}},
		{[]api.Share{of(0), of(-1), of(4), of(math.MinInt), of(math.MaxInt), {}}, []string{Mark(of(0)), Mark(of(-1)), Mark(of(4))}, nil},
		{[]api.Share{of(3, -1, 1<<40)}, []string{"", "", Mark(of(3, -1, 1<<40))}, []api.Share{of(3, -1, 1<<40)}}, // it need not stand in a plan
	} {
		if got := Marked(x.l, x.marks); !same(got, x.want) {
			t.Error("Marked", i, got)
		}
	}
	for n := range 40 { // as many marks as there are, more than holders of a plan, too
		var marks []string
		for k := range n {
			marks = append(marks, Mark(of(k+1, k)))
		}
		for holder := -1; holder <= 41; holder++ {
			if got := Marked([]api.Share{of(holder, holder-1)}, marks); len(got) == 1 != (1 <= holder && holder <= n) {
				t.Error("Marked", n, holder, got)
			}
		}
	}
}

// P1, with rule 1

// made are the lists of numbers of all results for these.
func made(l []api.Share, marks []string, xs, ys []int) [][]int {
	pl := plan(7, 1, 4)
	secret, liars, _ := Robust(pl, l)
	f, _ := One(7, 2, 0, xs, ys)
	all := [][]int{secret, liars, f}
	marked := Marked(l, marks)
	for _, s := range marked[:cap(marked)] {
		all = append(all, s.Values)
	}
	return all
}

func TestMemory(t *testing.T) {
	store := []int{1, 2, 3, 1, 2, 4, 1, 2, 3, 77, 78}
	l := []api.Share{{Holder: 3, Values: store[:3]}, {Holder: 1, Values: store[3:6]}, {Holder: 2, Values: store[6:9]}, {Holder: 99, Values: store[9:]}}
	marks := []string{Mark(l[1]), Mark(l[2]), "x", "beyond"}
	points := []int{1, 2, 77, 78, 2, 3, 88, 89}
	xs, ys := points[:2], points[4:6]
	before, pointsBefore, marksBefore := slices.Clone(store), slices.Clone(points), slices.Clone(marks)
	results := made(l[:3], marks[:3], xs, ys)
	if !slices.EqualFunc(results, made(l[:3], marks[:3], xs, ys), slices.Equal[[]int]) {
		t.Error("two calls have different results")
	}
	want := [][]int{{1, 2, 3}, {1}, {1, 1}, {1, 2, 4}, {1, 2, 3}}
	if len(results) < len(want) || !slices.EqualFunc(results[:len(want)], want, slices.Equal[[]int]) {
		t.Error("the results are other ones", results)
	}
	for i, x := range results { // a result may be written to, with all of its memory, and only it changes
		others := slices.Concat(slices.Concat(results[:i]...), slices.Concat(results[i+1:]...))
		x = x[:cap(x)]
		for k := range x {
			x[k] = 99 + i
		}
		if now := slices.Concat(slices.Concat(results[:i]...), slices.Concat(results[i+1:]...)); !slices.Equal(now, others) {
			t.Error("results share memory", i)
		}
	}
	if !slices.Equal(store, before) || !slices.Equal(points, pointsBefore) || !slices.Equal(marks, marksBefore) {
		t.Error("an argument was changed", store, points, marks)
	}
	for i, holder := range []int{3, 1, 2, 99} {
		if l[i].Holder != holder || len(l[i].Values) != []int{3, 3, 3, 2}[i] {
			t.Error("an argument was changed", l)
		}
	}
	marked := Marked(l[1:3], marks[:2])
	for i := range marked {
		marked[i].Holder = 50
	}
	if l[1].Holder != 1 || l[2].Holder != 2 {
		t.Error("Marked shares memory with its argument")
	}
}

func TestNilIsEmpty(t *testing.T) {
	for _, x := range [][2]api.Share{{of(2), of(1)}, {{Holder: 2, Values: []int{}}, of(1)}, {{Holder: 2, Values: []int{}}, {Holder: 1, Values: []int{}}}} {
		if secret, liars, e := Robust(plan(7, 2, 3), x[:]); e != api.OK || len(secret)+len(liars) > 0 {
			t.Error("nil and empty", secret, liars, e)
		}
		if Mark(x[0]) != Mark(of(2)) || len(Marked(x[:], []string{Mark(of(1)), Mark(of(2))})) != 2 {
			t.Error("nil and empty", x)
		}
	}
	for _, l := range [][]int{nil, {}} {
		for _, k := range [][]int{nil, {}} {
			if f, e := One(7, 1, 0, l, k); e != api.ErrMissing || len(f) > 0 {
				t.Error("nil and empty", f, e)
			}
		}
	}
	for _, l := range [][]api.Share{nil, {}} {
		if _, _, e := Robust(plan(7, 2, 3), l); e != api.ErrMissing {
			t.Error("nil and empty", e)
		}
		if len(Marked(l, []string{})) > 0 || len(Marked(l, nil)) > 0 {
			t.Error("nil and empty")
		}
	}
}

// strange are numbers that are no permitted primes, no elements, no holders, or lead to sums that do not fit.
var strange = []int{math.MinInt, math.MinInt + 1, -1 << 32, -2, -1, 0, 1, 2, 3, 7, 16, 17, api.MaxElements, api.Prime, api.MaxPrime, 1 << 32, 1 << 62, math.MaxInt - 1, math.MaxInt}

func TestNothingPanics(t *testing.T) {
	for _, p := range strange {
		for _, need := range strange {
			for _, x := range strange {
				pl := plan(p, need, x)
				Room(pl, x)
				l := []api.Share{of(1, x), of(x, 1), of(2, strange...), {Holder: x}}
				for i := range l {
					Robust(pl, l[i:])
					Robust(plan(p, need, 3), l[:i])
					Mark(l[i])
				}
				Marked(l, []string{"", Mark(l[1])})
				One(p, need, x, []int{1, 2, 3}, []int{x, 1, 2})
				One(p, need, x, []int{x, 1}, []int{0, 1})
				One(p, need, x, strange, strange)
				One(p, 1, need, []int{0, 1, x}, []int{0, 1, 0})
			}
		}
	}
}
