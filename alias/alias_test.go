package alias

import (
	"fmt"
	"math"
	"math/rand"
	"slices"
	"sort"
	"strings"
	"sync"
	"testing"

	"reportescrow/api"
	"reportescrow/words"
)

func as(name, of string, time int) api.Alias { return api.Alias{Name: name, Of: of, Time: time} }

func gone(name, of string, time int) api.Alias {
	return api.Alias{Name: name, Of: of, Time: time, Gone: true}
}

// modelValid is what a valid list is, word by word as the chapter says it.
func modelValid(l []api.Alias) bool {
	for i, a := range l {
		for _, s := range []string{a.Name, a.Of} {
			if s == "" || words.Fold(s) != s || len(s) > 256 {
				return false
			}
		}
		if a.Name == a.Of || a.Time < 0 || a.Time > 1<<40 {
			return false
		}
		if slices.ContainsFunc(l[:i], func(b api.Alias) bool { return b.Time > a.Time }) {
			return false
		}
	}
	return len(l) <= 256
}

// modelStep is the alias that counts for a name at a time, looked for from the end.
func modelStep(l []api.Alias, name string, time int) (api.Alias, bool) {
	for i := len(l) - 1; i >= 0; i-- {
		if l[i].Name == name && l[i].Time <= time {
			return l[i], !l[i].Gone
		}
	}
	return api.Alias{}, false
}

func modelAt(l []api.Alias, time int) []api.Alias {
	var names []string
	for _, a := range l {
		if !slices.Contains(names, a.Name) {
			names = append(names, a.Name)
		}
	}
	sort.Strings(names)
	var all []api.Alias
	for _, s := range names {
		if a, found := modelStep(l, s, time); found {
			all = append(all, a)
		}
	}
	return all
}

// modelFollow writes down where it has been.
func modelFollow(l []api.Alias, name string, time int) (string, bool) {
	been := []string{name}
	for {
		a, found := modelStep(l, name, time)
		if !found {
			return name, true
		}
		if slices.Contains(been, a.Of) {
			return "", false
		}
		name = a.Of
		been = append(been, name)
	}
}

// modelClass asks every name there is, also those of aliases that do not count any more: they make no difference.
func modelClass(l []api.Alias, name string, time int) []string {
	end, ok := modelFollow(l, name, time)
	if !ok {
		return []string{name}
	}
	all := map[string]bool{}
	for _, a := range append([]api.Alias{as(name, name, 0)}, l...) {
		for _, s := range []string{a.Name, a.Of} {
			if to, ok := modelFollow(l, s, time); ok && to == end {
				all[s] = true
			}
		}
	}
	var class []string
	for s := range all {
		if s == name || modelUsed(l, s, time) {
			class = append(class, s)
		}
	}
	sort.Strings(class)
	return class
}

// modelUsed tells whether a name is in an alias that counts.
func modelUsed(l []api.Alias, name string, time int) bool {
	return slices.ContainsFunc(modelAt(l, time), func(a api.Alias) bool { return a.Name == name || a.Of == name })
}

func modelAdd(l []api.Alias, a api.Alias) api.Errno {
	if !modelValid(l) || !modelValid([]api.Alias{a}) {
		return api.ErrInvalid
	}
	if len(l) > 0 && a.Time < l[len(l)-1].Time {
		return api.ErrTime
	}
	if len(l) >= 256 {
		return api.ErrLimit
	}
	if _, ok := modelFollow(append(slices.Clone(l), a), a.Name, a.Time); !a.Gone && !ok {
		return api.ErrCircle
	}
	return api.OK
}

// check compares what the layer says of a valid list, a name and a time with the model.
func check(t *testing.T, l []api.Alias, name string, time int) {
	t.Helper()
	want, ok := modelFollow(l, name, time)
	e := api.OK
	if !ok {
		want, e = "", api.ErrCircle
	}
	if got, f := Follow(l, name, time); got != want || f != e {
		t.Errorf("Follow %v %q %d: %q %d, not %q %d", l, name, time, got, f, want, e)
	}
	if got, want := Class(l, name, time), modelClass(l, name, time); !slices.Equal(got, want) {
		t.Errorf("Class %v %q %d: %q, not %q", l, name, time, got, want)
	}
}

func checkAt(t *testing.T, l []api.Alias, time int) {
	t.Helper()
	if got, want := At(l, time), modelAt(l, time); !slices.Equal(got, want) {
		t.Errorf("At %v %d: %v, not %v", l, time, got, want)
	}
}

func checkAdd(t *testing.T, l []api.Alias, a api.Alias) {
	t.Helper()
	e := modelAdd(l, a)
	want := append(slices.Clone(l), a)
	if e != api.OK {
		want = nil
	}
	if got, f := Add(l, a); f != e || !slices.Equal(got, want) {
		t.Errorf("Add %v %v: %v %d, not %d", l, a, got, f, e)
	}
}

// P13.1

func TestValidAliases(t *testing.T) {
	long := strings.Repeat("x", 256)
	for i, x := range []struct {
		a    api.Alias
		want bool
	}{
		{as("bob", "robert", 0), true}, {as("bob", "robert", 1<<40), true}, {gone("bob", "robert", 7), true}, {as("b", "c", 1), true}, {as("bob smith", "robert smith", 1), true}, {as("7", "seven", 1), true}, {as("bob", "bobby", 1), true}, {as("bobby", "bob", 1), true},
		{api.Alias{}, false}, {as("", "robert", 0), false}, {as("bob", "", 0), false}, {as("bob", "bob", 0), false}, {gone("", "robert", 0), false}, {gone("bob", "", 0), false}, {gone("bob", "bob", 0), false},
		{as("Bob", "robert", 0), false}, {as("bob", "Robert", 0), false}, {as(" bob", "robert", 0), false}, {as("bob", "robert ", 0), false}, {as("bob  smith", "robert", 0), false}, {as("bob", "o'brien", 0), false}, {as("bob.", "robert", 0), false}, {as("b\u00f6b", "robert", 0), false}, {as("bob", "robert\xff", 0), false}, {as("bob-smith", "robert", 0), false}, {as(" ", "robert", 0), false}, {gone("Bob", "robert", 0), false}, {gone("bob", "robert\x00", 0), false},
		{as("bob", "robert", -1), false}, {as("bob", "robert", 1<<40+1), false}, {as("bob", "robert", math.MaxInt), false}, {as("bob", "robert", math.MinInt), false}, {gone("bob", "robert", -1), false},
		{as(long, "robert", 0), true}, {as("bob", long, 0), true}, {as(long, long[1:], 0), true}, {as(long, long, 0), false}, {as(long+"x", "robert", 0), false}, {as("bob", long+"x", 0), false}, {as("bob", strings.Repeat("x", 1<<20), 0), false}, {as("bob", strings.Repeat("X", 257), 0), false}, {as(strings.Repeat(" ", 257), "robert", 0), false},
	} {
		if modelValid([]api.Alias{x.a}) != x.want {
			t.Error("the example is wrong", i)
		}
		if Valid([]api.Alias{x.a}) != x.want {
			t.Error("Valid", i)
		}
		checkAdd(t, nil, x.a)
	}
}

func TestEveryByteInAliases(t *testing.T) {
	for b := range 256 {
		x := string([]byte{byte(b)})
		for _, a := range []api.Alias{as(x, "other", 0), as("other", x, 0), as("a"+x+"b", "c", 1), gone("a", "b"+x+"c", 2), as("a"+x, "a", 3), as("a", x+"a", 3)} {
			if l := []api.Alias{a}; Valid(l) != modelValid(l) {
				t.Errorf("Valid %v", a)
			}
		}
	}
}

func TestValidLists(t *testing.T) {
	for i, x := range []struct {
		times []int
		want  bool
	}{{nil, true}, {[]int{0}, true}, {[]int{0, 0}, true}, {[]int{0, 1}, true}, {[]int{1, 0}, false}, {[]int{3, 3, 3, 4, 1 << 40, 1 << 40}, true}, {[]int{3, 4, 3}, false}, {[]int{5, 4, 6}, false}, {[]int{1, 2, 3, 2, 5}, false}, {[]int{1, 2, 3, 4, 0}, false}} {
		var l []api.Alias
		for _, time := range x.times {
			l = append(l, as("bob", "robert", time))
		}
		if Valid(l) != x.want || modelValid(l) != x.want {
			t.Error("Valid", i)
		}
	}
	if !Valid([]api.Alias{}) || !Valid([]api.Alias{as("a", "b", 1), as("b", "a", 1)}) { // circles are no matter
		t.Error("Valid")
	}
	good := slices.Repeat([]api.Alias{as("bob", "robert", 5)}, 258)
	for n := range 259 {
		if Valid(good[:n]) != (n <= 256) {
			t.Error("Valid: aliases", n)
		}
	}
	for i := range 256 {
		for _, a := range []api.Alias{as("bob", "", 5), as("Bob", "robert", 5), as("bob", "robert", 6)} {
			bad := slices.Clone(good[:256])
			bad[i] = a
			if Valid(bad) != (a.Time == 6 && i == 255) {
				t.Error("Valid: one of them is not", i, a)
			}
		}
	}
}

func TestAtExamples(t *testing.T) {
	l := []api.Alias{as("c", "d", 0), as("b", "c", 2), as("b", "d", 2), as("aa", "a", 3), gone("c", "x", 3), gone("c", "y", 3), as("c", "e", 5), gone("z", "a", 5), as("a b", "a", 6), as("a0", "a", 6), gone("b", "d", 1<<40)}
	for i, x := range []struct {
		time int
		want []api.Alias
	}{
		{math.MinInt, nil}, {-1, nil}, {0, l[:1]}, {1, l[:1]}, {2, []api.Alias{l[2], l[0]}}, {3, []api.Alias{l[3], l[2]}}, {4, []api.Alias{l[3], l[2]}}, {5, []api.Alias{l[3], l[2], l[6]}}, {6, []api.Alias{l[8], l[9], l[3], l[2], l[6]}}, {1<<40 - 1, []api.Alias{l[8], l[9], l[3], l[2], l[6]}}, {1 << 40, []api.Alias{l[8], l[9], l[3], l[6]}}, {math.MaxInt, []api.Alias{l[8], l[9], l[3], l[6]}},
	} {
		if got := At(l, x.time); !slices.Equal(got, x.want) {
			t.Error("At", i, got)
		}
		checkAt(t, l, x.time)
	}
	if len(At(nil, 5)) != 0 || len(At([]api.Alias{gone("a", "b", 0)}, 5)) != 0 {
		t.Error("At: none")
	}
}

func TestFollowExamples(t *testing.T) {
	l := []api.Alias{as("bob", "robert", 3), as("rob", "bob", 3), as("bobby", "rob", 4), as("bob", "william", 6), as("william", "bill", 6), gone("bob", "robert", 9), gone("william", "bill", 11), as("bob", "robert", 12)}
	for i, x := range []struct {
		name string
		time int
		want string
	}{
		{"bob", 2, "bob"}, {"bob", 3, "robert"}, {"bob", 5, "robert"}, {"bob", 6, "bill"}, {"bob", 8, "bill"}, {"bob", 9, "bob"}, {"bob", 11, "bob"}, {"bob", 12, "robert"}, {"bob", math.MaxInt, "robert"}, {"bob", -1, "bob"}, {"bob", math.MinInt, "bob"},
		{"rob", 2, "rob"}, {"rob", 3, "robert"}, {"rob", 7, "bill"}, {"rob", 10, "bob"}, {"bobby", 3, "bobby"}, {"bobby", 4, "robert"}, {"bobby", 6, "bill"}, {"bobby", 9, "bob"}, {"bobby", 12, "robert"}, {"william", 5, "william"}, {"william", 10, "bill"}, {"william", 11, "william"}, {"robert", 5, "robert"}, {"bill", 7, "bill"},
		{"", 5, ""}, {"Bob", 5, "Bob"}, {" bob", 5, " bob"}, {"\xff", 5, "\xff"}, {strings.Repeat("bob ", 1000), 5, strings.Repeat("bob ", 1000)},
	} {
		if got, e := Follow(l, x.name, x.time); got != x.want || e != api.OK {
			t.Errorf("Follow %d: %q %d", i, got, e)
		}
		check(t, l, x.name, x.time)
	}
	if got, e := Follow(nil, "bob", 5); got != "bob" || e != api.OK {
		t.Errorf("Follow: no aliases: %q %d", got, e)
	}
}

func TestFollowErrors(t *testing.T) {
	circle := []api.Alias{as("a", "b", 1), as("c", "a", 1), as("d", "e", 1), as("b", "a", 2), gone("a", "b", 4)}
	many := slices.Repeat(circle[:1], 257)
	for i, x := range []struct {
		l    []api.Alias
		name string
		time int
		e    api.Errno
	}{
		{circle, "a", 1, api.OK}, {circle, "a", 2, api.ErrCircle}, {circle, "b", 2, api.ErrCircle}, {circle, "c", 3, api.ErrCircle}, {circle, "d", 3, api.OK}, {circle, "e", 3, api.OK}, {circle, "f", 3, api.OK}, {circle, "", 3, api.OK}, {circle, "a", 4, api.OK}, {circle, "b", 4, api.OK}, {circle, "c", 4, api.OK},
		{append(circle[:3:3], as("b", "a", 0)), "a", 2, api.ErrInvalid}, {append(circle[:4:4], as("b", "B", 3)), "a", 2, api.ErrInvalid}, {[]api.Alias{as("a", "a", 1)}, "a", 1, api.ErrInvalid}, {[]api.Alias{as("a", "a", 1)}, "b", 0, api.ErrInvalid}, {[]api.Alias{{}}, "", 0, api.ErrInvalid}, {many, "z", -1, api.ErrInvalid}, {many[:256], "a", 1, api.OK},
	} {
		got, e := Follow(x.l, x.name, x.time)
		if e != x.e || e != api.OK && got != "" {
			t.Errorf("Follow %d: %q %d", i, got, e)
		}
	}
}

// The longest ways and circles there can be.
func TestLongWays(t *testing.T) {
	for _, n := range []int{1, 2, 3, 255, 256} {
		var l []api.Alias
		var all []string
		for i := range n {
			l = append(l, as(fmt.Sprintf("n%03d", i), fmt.Sprintf("n%03d", i+1), 1))
			all = append(all, l[i].Name)
		}
		end := l[n-1].Of
		if got, e := Follow(l, "n000", 1); got != end || e != api.OK {
			t.Errorf("Follow %d: %q %d", n, got, e)
		}
		for _, s := range []string{"n000", l[n/2].Name, end} {
			if got := Class(l, s, 1); !slices.Equal(got, append(all[:n:n], end)) {
				t.Errorf("Class %d %q: %q", n, s, got)
			}
		}
		if n == 1 {
			continue
		}
		l[n-1].Of = "n000"
		for _, s := range []string{"n000", "n001", l[n-1].Name} {
			if got, e := Follow(l, s, 1); got != "" || e != api.ErrCircle {
				t.Errorf("Follow in a circle %d %q: %q %d", n, s, got, e)
			}
			if got := Class(l, s, 1); !slices.Equal(got, []string{s}) {
				t.Errorf("Class in a circle %d %q: %q", n, s, got)
			}
		}
	}
}

// P13.2

func TestAddExamples(t *testing.T) {
	l := []api.Alias{as("bob", "robert", 3), as("rob", "bob", 4)}
	many := slices.Repeat([]api.Alias{as("bob", "robert", 3)}, 257)
	circle := []api.Alias{as("a", "b", 1), as("b", "a", 1)}
	for i, x := range []struct {
		l []api.Alias
		a api.Alias
		e api.Errno
	}{
		{nil, as("a", "b", 0), api.OK}, {nil, gone("a", "b", 0), api.OK}, {nil, as("a", "b", 1<<40), api.OK}, {nil, as("a", "a", 0), api.ErrInvalid}, {nil, as("a", "b", -1), api.ErrInvalid},
		{l, as("bobby", "bob", 4), api.OK}, {l, as("robert", "bert", 9), api.OK}, {l, as("bob", "william", 5), api.OK}, {l, as("bob", "robert", 4), api.OK}, {l, as("rob", "robert", 4), api.OK}, {l, gone("bob", "rob", 4), api.OK}, {l, gone("nobody", "bob", 4), api.OK},
		{l, as("robert", "rob", 4), api.ErrCircle}, {l, as("robert", "bob", 4), api.ErrCircle}, {l, as("bob", "rob", 1<<40), api.ErrCircle}, {l, gone("robert", "rob", 4), api.OK},
		{l, as("x", "y", 3), api.ErrTime}, {l, as("x", "y", 0), api.ErrTime}, {l, gone("x", "y", 3), api.ErrTime}, {l, as("robert", "bob", 3), api.ErrTime}, {l, as("x", "y", -1), api.ErrInvalid}, {l, as("X", "y", 3), api.ErrInvalid}, {l, as("x", "y", 1<<40+1), api.ErrInvalid},
		{many[:255], as("x", "y", 3), api.OK}, {many[:256], as("x", "y", 3), api.ErrLimit}, {many[:256], as("robert", "bob", 3), api.ErrLimit}, {many[:256], gone("bob", "robert", 4), api.ErrLimit}, {many[:256], as("x", "y", 2), api.ErrTime}, {many[:256], as("x", "x", 3), api.ErrInvalid}, {many, as("x", "y", 3), api.ErrInvalid}, {many, as("x", "y", 2), api.ErrInvalid}, {many[:255], as("robert", "bob", 3), api.ErrCircle},
		{[]api.Alias{as("a", "b", 2), as("c", "d", 1)}, as("x", "y", 3), api.ErrInvalid}, {[]api.Alias{{}}, as("x", "y", 3), api.ErrInvalid},
		{circle, as("c", "a", 1), api.ErrCircle}, {circle, as("c", "d", 1), api.OK}, {circle, as("a", "c", 1), api.OK}, {circle, as("a", "b", 1), api.ErrCircle}, {circle, gone("a", "b", 1), api.OK}, {append(circle[:2:2], gone("b", "a", 2)), as("c", "a", 2), api.OK},
	} {
		checkAdd(t, x.l, x.a)
		got, e := Add(x.l, x.a)
		if e != x.e || e == api.OK && !slices.Equal(got, append(slices.Clone(x.l), x.a)) {
			t.Errorf("Add %d: %v %d", i, got, e)
		}
	}
}

func TestClassExamples(t *testing.T) {
	l := []api.Alias{as("bob", "robert", 3), as("rob", "bob", 3), as("bobby", "rob", 4), as("will", "william", 4), as("bob", "william", 6), gone("bob", "robert", 9), as("x", "y", 10), as("y", "x", 10), as("z", "x", 10)}
	for i, x := range []struct {
		name string
		time int
		want []string
	}{
		{"robert", 2, []string{"robert"}}, {"robert", 3, []string{"bob", "rob", "robert"}}, {"bob", 3, []string{"bob", "rob", "robert"}}, {"rob", 4, []string{"bob", "bobby", "rob", "robert"}}, {"william", 4, []string{"will", "william"}}, {"robert", 6, []string{"robert"}}, {"will", 6, []string{"bob", "bobby", "rob", "will", "william"}}, {"bobby", 8, []string{"bob", "bobby", "rob", "will", "william"}}, {"bob", 9, []string{"bob", "bobby", "rob"}}, {"william", 9, []string{"will", "william"}}, {"robert", 9, []string{"robert"}},
		{"x", 9, []string{"x"}}, {"x", 10, []string{"x"}}, {"y", 10, []string{"y"}}, {"z", 10, []string{"z"}}, {"bobby", 10, []string{"bob", "bobby", "rob"}},
		{"", 5, []string{""}}, {"", 10, []string{""}}, {"Bob", 5, []string{"Bob"}}, {"zed", 10, []string{"zed"}}, {"\xff", -5, []string{"\xff"}},
	} {
		if got := Class(l, x.name, x.time); !slices.Equal(got, x.want) {
			t.Errorf("Class %d: %q", i, got)
		}
		check(t, l, x.name, x.time)
	}
	if got := Class(nil, "bob", 5); !slices.Equal(got, []string{"bob"}) {
		t.Errorf("Class: no aliases: %q", got)
	}
	if got := Class([]api.Alias{as("a", "b", 2), as("c", "b", 1)}, "b", 5); !slices.Equal(got, []string{"b"}) { // Follow has an error
		t.Errorf("Class: a list that is not valid: %q", got)
	}
}

// P13.1 and P13.2

func TestExampleOfTheChapter(t *testing.T) {
	l, e := Add(nil, as("bob", "robert", 3))
	if e != api.OK {
		t.Fatal(e)
	}
	l, e = Add(l, gone("bob", "robert", 9))
	if e != api.OK || len(l) != 2 {
		t.Fatal(l, e)
	}
	for time, want := range []string{"bob", "bob", "bob", "robert", "robert", "robert", "robert", "robert", "robert", "bob", "bob"} {
		if got, e := Follow(l, "bob", time); got != want || e != api.OK {
			t.Errorf("Follow at %d: %q %d", time, got, e)
		}
	}
}

// everyAlias are all aliases among some names at some times.
func everyAlias(names string, times int) []api.Alias {
	var all []api.Alias
	for _, x := range names {
		for _, y := range names {
			for time := range times {
				if x != y {
					all = append(all, as(string(x), string(y), time), gone(string(x), string(y), time))
				}
			}
		}
	}
	return all
}

// All lists of at most three aliases among three names at two times.
func TestEveryShortList(t *testing.T) {
	all := everyAlias("abc", 2)
	var lists func(l []api.Alias)
	lists = func(l []api.Alias) {
		if Valid(l) != modelValid(l) {
			t.Errorf("Valid %v", l)
		}
		if !Valid(l) {
			return
		}
		for time := -1; time < 3; time++ {
			checkAt(t, l, time)
			for _, s := range []string{"a", "b", "c", "", "d"} {
				check(t, l, s, time)
			}
		}
		for _, a := range all {
			checkAdd(t, l, a)
			if len(l) < 3 {
				lists(append(l[:len(l):len(l)], a))
			}
		}
	}
	lists(nil)
}

func someNames() []string { return []string{"a", "b", "c", "d", "e", "a b", "ab", "a0", "z", "bob"} }

func randomName(random *rand.Rand) string { return someNames()[random.Intn(10)] }

func randomAlias(random *rand.Rand, time int) api.Alias {
	for {
		a := as(randomName(random), randomName(random), time)
		if a.Gone = random.Intn(4) == 0; a.Name != a.Of {
			return a
		}
	}
}

func TestRandomLists(t *testing.T) {
	random := rand.New(rand.NewSource(13))
	for range 1500 {
		var l []api.Alias
		time := 0
		for range random.Intn(25) {
			time += random.Intn(3)
			l = append(l, randomAlias(random, time))
		}
		for range 8 {
			now := random.Intn(time+4) - 1
			checkAt(t, l, now)
			check(t, l, randomName(random), now)
			checkAdd(t, l, randomAlias(random, now))
			checkAdd(t, l, randomAlias(random, time+random.Intn(2)))
		}
	}
}

// Consequences

func TestListsMadeByAddHaveNoCircles(t *testing.T) {
	random := rand.New(rand.NewSource(131))
	for range 60 {
		var l []api.Alias
		time := 0
		for range 60 {
			if longer, e := Add(l, randomAlias(random, time)); e == api.OK {
				l = longer
			}
			time += random.Intn(4) / 3
		}
		for now := -1; now <= time+1; now++ {
			for _, s := range someNames() {
				checkClassOf(t, l, s, now)
			}
		}
	}
}

// checkClassOf checks that all names of one class lead to the same name, which is one of them, and have this class.
func checkClassOf(t *testing.T, l []api.Alias, name string, time int) {
	t.Helper()
	end, e := Follow(l, name, time)
	if e != api.OK {
		t.Fatalf("Follow %v %q %d: %d", l, name, time, e)
	}
	class := Class(l, name, time)
	if !slices.Contains(class, name) || !slices.Contains(class, end) {
		t.Errorf("Class %v %q %d: %q without %q", l, name, time, class, end)
	}
	for _, s := range class {
		if to, e := Follow(l, s, time); to != end || e != api.OK {
			t.Errorf("Follow %v %q %d: %q %d, not %q", l, s, time, to, e, end)
		}
	}
	if !slices.Equal(Class(l, end, time), class) {
		t.Errorf("Class %v %q %d: %q, not that of %q", l, name, time, class, end)
	}
}

// P1 and rule 1: lists that are not valid give an answer, too.

func TestStrangeArguments(t *testing.T) {
	long := strings.Repeat("ab ", 5000)
	strange := []api.Alias{{}, as("a", "a", 5), as("b", "c", math.MaxInt), as("c", "b", math.MinInt), as("\xff", long, -1), as(long, "\xff", 0), gone("", "", math.MinInt), as("A", "", 3)}
	for _, l := range [][]api.Alias{strange, slices.Repeat(strange, 100), strange[1:2], strange[:1]} {
		for _, s := range []string{"", "a", "b", "\xff", long} {
			for _, time := range []int{math.MinInt, -1, 0, 5, math.MaxInt} {
				At(l, time)
				if got, e := Follow(l, s, time); got != "" || e != api.ErrInvalid {
					t.Errorf("Follow %.40q: %q %d", s, got, e)
				}
				if got := Class(l, s, time); !slices.Equal(got, []string{s}) {
					t.Errorf("Class %.40q: %q", s, got)
				}
			}
		}
		for _, a := range append([]api.Alias{as("x", "y", 7), as("x", "y", 0), gone("x", "y", 1<<40)}, strange...) {
			if got, e := Add(l, a); got != nil || e != api.ErrInvalid {
				t.Errorf("Add: %v %d", got, e)
			}
		}
	}
	for _, a := range strange {
		if got, e := Add(nil, a); got != nil || e != api.ErrInvalid {
			t.Errorf("Add: %v %d", got, e)
		}
	}
}

func TestArgumentsAreNotChanged(t *testing.T) {
	whole := []api.Alias{as("c", "d", 1), as("b", "c", 2), as("a", "b", 2), as("later", "x", 3)}
	kept := slices.Clone(whole)
	l := whole[:3]
	longer, e := Add(l, as("z", "a", 5))
	if e != api.OK {
		t.Fatal(e)
	}
	At(l, 5)
	Follow(l, "a", 5)
	Class(l, "a", 5)
	Valid(l)
	if !slices.Equal(whole, kept) {
		t.Fatalf("the aliases have changed: %v", whole)
	}
	for _, result := range [][]api.Alias{longer, At(l, 5)} {
		for i := range result {
			result[i] = as("changed", "x", 9)
		}
	}
	if !slices.Equal(whole, kept) {
		t.Fatalf("a result shares memory with the aliases: %v", whole)
	}
}

func TestCallsAtTheSameTime(t *testing.T) {
	l := []api.Alias{as("bob", "robert", 3), as("rob", "bob", 4)}
	var all sync.WaitGroup
	wrong := make([]bool, 16)
	for i := range wrong {
		all.Add(1)
		go func() {
			defer all.Done()
			for range 200 {
				s, e := Follow(l, "rob", 5)
				wrong[i] = wrong[i] || s != "robert" || e != api.OK || len(Class(l, "bob", 5)) != 3 || len(At(l, 5)) != 2
			}
		}()
	}
	all.Wait()
	if slices.Contains(wrong, true) {
		t.Error("Follow at the same time")
	}
}
