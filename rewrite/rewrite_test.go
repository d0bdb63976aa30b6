package rewrite

import (
	"math/rand"
	"slices"
	"strings"
	"sync"
	"testing"

	"reportescrow/api"
	"reportescrow/words"
)

func rule(from, to string, at int) api.Rule { return api.Rule{From: from, To: to, At: at} }

// modelValid is what a valid rule is, word by word as the chapter says it.
func modelValid(r api.Rule) bool {
	for _, s := range []string{r.From, r.To} {
		if len(s) > 256 {
			return false
		}
		for _, c := range []byte(s) {
			if !strings.Contains("abcdefghijklmnopqrstuvwxyz0123456789 ", string([]byte{c})) {
				return false
			}
		}
	}
	return r.From != "" && slices.Contains([]int{0, 1, 2, 3}, r.At) && modelShortens(r)
}

func modelShortens(r api.Rule) bool {
	return len(r.To) < len(r.From) || len(r.To) == 1 && len(r.From) == 1 && r.To[0] < r.From[0]
}

// modelPositions are all positions at which a rule matches a text.
func modelPositions(r api.Rule, s string) []int {
	var l []int
	for at := 0; at+len(r.From) <= len(s); at++ {
		before, here, after := s[:at], s[at:at+len(r.From)], s[at+len(r.From):]
		fits := false
		switch r.At {
		case 0:
			fits = true
		case 1:
			fits = before == ""
		case 2:
			fits = after == ""
		case 3:
			fits = (before == "" || strings.HasSuffix(before, " ")) && (after == "" || strings.HasPrefix(after, " "))
		}
		if fits && here == r.From {
			l = append(l, at)
		}
	}
	return l
}

func modelReplace(r api.Rule, s string, at int) string {
	return strings.Join([]string{s[:at], s[at+len(r.From):]}, r.To)
}

func modelOnce(l []api.Rule, s string) (string, int) {
	var first [][2]int // positions and rules, of which the least is wanted
	for k, r := range l {
		for _, at := range modelPositions(r, s) {
			first = append(first, [2]int{at, k})
		}
	}
	if len(first) == 0 {
		return s, -1
	}
	least := slices.MinFunc(first, func(a, b [2]int) int { return slices.Compare(a[:], b[:]) })
	return modelReplace(l[least[1]], s, least[0]), least[1]
}

func modelApply(l []api.Rule, s string) string {
	s = words.Fold(s)
	for {
		next, k := modelOnce(l, s)
		if k < 0 {
			return s
		}
		s = words.Fold(next)
	}
}

func modelClash(l []api.Rule, s string) bool {
	s = words.Fold(s)
	ends := map[string]bool{}
	for _, r := range l {
		for _, at := range modelPositions(r, s) {
			ends[modelApply(l, modelReplace(r, s, at))] = true
		}
	}
	return len(ends) > 1
}

// check compares all that the layer says of a valid list and a text with the model.
func check(t *testing.T, l []api.Rule, s string) {
	t.Helper()
	want, k := modelOnce(l, s)
	if got, n := Once(l, s); got != want || n != k {
		t.Errorf("Once %v %q: %q %d, not %q %d", l, s, got, n, want, k)
	}
	for _, r := range l {
		checkMatches(t, r, s)
	}
	want = modelApply(l, s)
	got, e := Apply(l, s)
	if e != api.OK || got != want || !words.Plain(got) {
		t.Errorf("Apply %v %q: %q %d, not %q", l, s, got, e, want)
	}
	if twice, e := Apply(l, got); e != api.OK || twice != got {
		t.Errorf("Apply twice %v %q: %q %d, not %q", l, s, twice, e, got)
	}
	if _, n := Once(l, got); n >= 0 {
		t.Errorf("Once %v after Apply %q: %d", l, s, n)
	}
	if Clash(l, s) != modelClash(l, s) {
		t.Errorf("Clash %v %q: %v", l, s, Clash(l, s))
	}
}

func checkMatches(t *testing.T, r api.Rule, s string) {
	t.Helper()
	want := -1
	if l := modelPositions(r, s); len(l) > 0 {
		want = l[0]
	}
	if at := Matches(r, s); at != want {
		t.Errorf("Matches %v %q: %d, not %d", r, s, at, want)
	}
}

// textsOf are all texts of at most so many bytes of an alphabet.
func textsOf(alphabet string, most int) []string {
	all := []string{""}
	for start := 0; most > 0; most-- {
		end := len(all)
		for _, s := range all[start:end] {
			for i := range len(alphabet) {
				all = append(all, s+alphabet[i:i+1])
			}
		}
		start = end
	}
	return all
}

// rulesOf are all valid rules with texts of at most so many bytes of an alphabet.
func rulesOf(alphabet string, from, to int) []api.Rule {
	var l []api.Rule
	for _, a := range textsOf(alphabet, from) {
		for _, b := range textsOf(alphabet, to) {
			for at := range 4 {
				if r := rule(a, b, at); modelValid(r) {
					l = append(l, r)
				}
			}
		}
	}
	return l
}

// P12.1

func TestValidRules(t *testing.T) {
	long := strings.Repeat("a", 256)
	for i, x := range []struct {
		r           api.Rule
		valid, less bool
	}{
		{rule("ph", "f", 0), true, true}, {rule("jr", "", 3), true, true}, {rule("a", "", 1), true, true}, {rule("ab", "", 2), true, true}, {rule("abc", "de", 0), true, true}, {rule(" ", "", 0), true, true}, {rule("  ", " ", 0), true, true}, {rule("09", "9", 0), true, true},
		{rule("", "", 0), false, false}, {rule("", "a", 0), false, false}, {rule("", "ab", 0), false, false}, {rule("a", "a", 0), false, false}, {rule("a", "b", 0), false, false}, {rule("b", "a", 0), true, true}, {rule("a", "9", 0), true, true}, {rule("0", " ", 0), true, true}, {rule(" ", "0", 0), false, false}, {rule("9", "a", 0), false, false}, {rule("z", "a", 3), true, true},
		{rule("ab", "aa", 0), false, false}, {rule("ba", "ab", 0), false, false}, {rule("bb", "a", 0), true, true}, {rule("a", "bb", 0), false, false}, {rule("b", "aa", 0), false, false}, {rule("ab", "abc", 0), false, false}, {rule("ab", "ab", 0), false, false}, {rule("zzz", "aaa", 0), false, false},
		{rule("A", "", 0), false, true}, {rule("aB", "a", 0), false, true}, {rule("ab", "B", 0), false, true}, {rule("a.", "a", 0), false, true}, {rule("ab", "'", 0), false, true}, {rule("\u00e4", "a", 0), false, true}, {rule("a\t", "a", 0), false, true}, {rule("a\xff", "a", 0), false, true}, {rule("a\x00", "a", 0), false, true}, {rule("abc", "\u00e4", 0), false, true}, {rule("ab", "`", 0), false, true}, {rule("{a", "", 0), false, true}, {rule("/:", "", 0), false, true},
		{rule("a", "", -1), false, true}, {rule("a", "", 4), false, true}, {rule("a", "", 1<<62), false, true}, {rule("a", "", -1<<63), false, true},
		{rule(long, long[1:], 0), true, true}, {rule(long, long, 0), false, false}, {rule(long+"a", long, 0), false, true}, {rule(long+"aa", long+"a", 0), false, true}, {rule(long, long+"a", 0), false, false}, {rule(long[:255]+" ", "", 3), true, true},
	} {
		if modelValid(x.r) != x.valid || modelShortens(x.r) != x.less {
			t.Error("the example is wrong", i)
		}
		if Valid([]api.Rule{x.r}) != x.valid || Shortens(x.r) != x.less {
			t.Errorf("%d: Valid %v, Shortens %v", i, Valid([]api.Rule{x.r}), Shortens(x.r))
		}
	}
}

// Every byte in either text of a rule, and every two bytes as a rule.
func TestEveryByteInRules(t *testing.T) {
	for a := range 256 {
		x := string([]byte{byte(a)})
		for _, r := range []api.Rule{rule(x, "", 0), rule("ab"+x, "c", 1), rule("abc", x, 2), rule("abc", "d"+x, 3), rule(x+"bc", x+"d", 0)} {
			if Valid([]api.Rule{r}) != modelValid(r) || Shortens(r) != modelShortens(r) {
				t.Errorf("Valid %v", r)
			}
		}
		for b := range 256 {
			r := rule(x, string([]byte{byte(b)}), 0)
			if Valid([]api.Rule{r}) != modelValid(r) || Shortens(r) != (b < a) {
				t.Errorf("Valid %v", r)
			}
		}
	}
}

func TestValidLists(t *testing.T) {
	good := slices.Repeat([]api.Rule{rule("b", "a", 0)}, 33)
	for n := range 34 {
		if Valid(good[:n]) != (n <= 32) {
			t.Error("Valid: rules", n)
		}
	}
	for i := range 32 {
		bad := slices.Clone(good[:32])
		bad[i].At = 4
		if Valid(bad) || !Valid(append(bad[:i:i], bad[i+1:]...)) {
			t.Error("Valid: one of them is not", i)
		}
	}
	if !Valid(nil) || !Valid([]api.Rule{}) {
		t.Error("Valid: none")
	}
}

func TestMatchesExamples(t *testing.T) {
	for i, x := range []struct {
		r    api.Rule
		s    string
		want int
	}{
		{rule("an", "", 0), "banana", 1}, {rule("ana", "", 0), "banana", 1}, {rule("banana", "", 0), "banana", 0}, {rule("bananas", "", 0), "banana", -1}, {rule("a", "", 0), "", -1}, {rule("a", "", 0), "b", -1}, {rule("ab", "", 0), "aab", 1}, {rule(" ", "", 0), "a b c", 1},
		{rule("ba", "", 1), "banana", 0}, {rule("an", "", 1), "banana", -1}, {rule("b", "", 1), "ab", -1}, {rule("a", "", 1), "a", 0}, {rule("a", "", 1), "aa", 0}, {rule("a", "", 1), " a", -1}, {rule("a", "", 1), "", -1},
		{rule("na", "", 2), "banana", 4}, {rule("ana", "", 2), "banana", 3}, {rule("an", "", 2), "banana", -1}, {rule("a", "", 2), "a", 0}, {rule("a", "", 2), "aaa", 2}, {rule("a", "", 2), "a ", -1}, {rule(" ", "", 2), "a  ", 2}, {rule("banana", "", 2), "banana", 0}, {rule("a", "", 2), "", -1},
		{rule("jr", "", 3), "jr", 0}, {rule("jr", "", 3), "jr smith", 0}, {rule("jr", "", 3), "smith jr", 6}, {rule("jr", "", 3), "a jr b jr", 2}, {rule("jr", "", 3), "jra ajr ajra jr", 13}, {rule("jr", "", 3), "jra", -1}, {rule("jr", "", 3), "ajr", -1}, {rule("jr", "", 3), "jrjr", -1}, {rule("jr", "", 3), "", -1}, {rule("a b", "", 3), "xa b a b", 5}, {rule("a b", "", 3), "a bx", -1}, {rule(" a", "", 3), "b  a", 2}, {rule(" a", "", 3), "b a", -1}, {rule("a ", "", 3), "a  b", 0}, {rule("a ", "", 3), "a b", -1}, {rule("a ", "", 3), "a ", 0}, {rule("a", "", 3), "  a", 2}, {rule("a", "", 3), "\ta\t", -1}, {rule("a", "", 3), "-a", -1},
		{rule("a", "", 0), "Aa", 1}, {rule("a", "", 0), "A", -1}, {rule("a", "", 0), "\u00e4\xffa", 3}, {rule("ae", "", 0), "\u00e4", -1}, {rule("a", "", 2), "a\x00", -1}, {rule("a", "", 0), strings.Repeat("b", 5000) + "a", 5000},
	} {
		if at := Matches(x.r, x.s); at != x.want {
			t.Error("Matches", i, at)
		}
		checkMatches(t, x.r, x.s)
	}
}

// All rules of at most three bytes and all texts of at most six, of two letters and spaces.
func TestMatchesEveryShortText(t *testing.T) {
	texts := textsOf("ab ", 6)
	for _, from := range textsOf("ab ", 3)[1:] {
		for at := range 4 {
			for _, s := range texts {
				checkMatches(t, rule(from, "", at), s)
			}
		}
	}
}

func TestOnceExamples(t *testing.T) {
	l := []api.Rule{rule("b", "a", 0), rule("ab", "", 0), rule("cd", "x", 2), rule("a", "", 0), rule("b", "", 1), rule("e", "", 3)}
	for i, x := range []struct {
		l       []api.Rule
		s, want string
		k       int
	}{
		{l, "", "", -1}, {l, "ccc", "ccc", -1}, {l, "cab", "c", 1}, {l, "b ab", "a ab", 0}, {l, "ba", "aa", 0}, {l, "aab", "ab", 3}, {l, "ab", "", 1}, {l, "cdcd", "cdx", 2}, {l, "e", "", 5}, {l, "x e e", "x  e", 5}, {l, "x  e  x", "x    x", 5}, {l, " b ", " a ", 0}, {l, "xe", "xe", -1}, {l, "A-B", "A-B", -1}, {l, "A-Bb", "A-Ba", 0}, {l, "\xffb\u00e4", "\xffa\u00e4", 0}, {l, "  ", "  ", -1},
		{nil, "abc", "abc", -1}, {nil, "", "", -1}, {[]api.Rule{}, " A ", " A ", -1},
		{[]api.Rule{rule("abc", "x", 0), rule("ab", "y", 0)}, "abc", "x", 0}, {[]api.Rule{rule("ab", "y", 0), rule("abc", "x", 0)}, "abc", "yc", 0}, {[]api.Rule{rule("bc", "y", 0), rule("ab", "x", 0)}, "abc", "xc", 1}, {[]api.Rule{rule("aa", "b", 2), rule("aa", "c", 1)}, "aaa", "ca", 1}, {[]api.Rule{rule("aa", "b", 2), rule("aa", "c", 1)}, "aa", "b", 0}, {[]api.Rule{rule("aa", "b", 0)}, "aaaa", "baa", 0}, {[]api.Rule{rule("x", "", 0), rule("b", "", 0), rule("b", "a", 0)}, "abb", "ab", 1},
	} {
		s, k := Once(x.l, x.s)
		if s != x.want || k != x.k {
			t.Errorf("Once %d: %q %d", i, s, k)
		}
		if want, n := modelOnce(x.l, x.s); want != x.want || n != x.k {
			t.Error("the example is wrong", i)
		}
	}
}

func TestApplyExamples(t *testing.T) {
	names := []api.Rule{rule("ph", "f", 0), rule("jr", "", 3), rule("ll", "l", 0), rule("y", "i", 2), rule("mac ", "mc", 1), rule("tt", "t", 0)}
	for i, x := range []struct {
		l       []api.Rule
		s, want string
	}{
		{names[:2], "joseph jr", "josef"}, {names, "Joseph Jr.", "josef"}, {names, "Phillllip", "filip"}, {names, "Mary", "mari"}, {names, "Mary Lou", "mary lou"}, {names, "Mac Donnall", "mcdonnal"}, {names, "Jr", ""}, {names, "Jr Jr jrx", "jrx"}, {names, "jr jr", ""}, {names, "a jr b", "a b"}, {names, "y jr", "i"}, {names, "yy", "yi"}, {names, "Ph Jr y", "f i"}, {names, "", ""}, {names, "Otto", "oto"}, {names, "P.H.", "f"}, {names, "jr mac donald", "mcdonald"}, {names, "mac jr donald", "mcjr donald"}, {names, "O'Phelia-M\u00fcller", "ofelia mueler"},
		{nil, "", ""}, {nil, "  O'Brien-M\u00fcller\xff ", "obrien mueller"}, {[]api.Rule{}, "A  b", "a b"},
		{[]api.Rule{rule(" ", "", 0)}, " a b  c", "abc"}, {[]api.Rule{rule("x", " ", 0)}, "xaxxbx", "a b"}, {[]api.Rule{rule("x", " ", 0), rule("a b", "c", 0)}, "axb", "c"}, {[]api.Rule{rule("x", " ", 0), rule("a b", "c", 0)}, "xaxxxbx", "c"}, {[]api.Rule{rule("ab", "", 0)}, "aaabbb", ""}, {[]api.Rule{rule("ab", " ", 0)}, "aababb", "a b"}, {[]api.Rule{rule("  ", " ", 0)}, "a  b", "a b"},
		{[]api.Rule{rule("jr", "", 3), rule("abc", "z", 2)}, "xabc jr", "xz"}, {[]api.Rule{rule("jr", "", 3), rule("abc", "z", 2)}, "yyxabc jr jr", "yyxz"}, {[]api.Rule{rule("jr", "", 3), rule("ab c", "z", 3)}, "x ab jr c", "x z"}, {[]api.Rule{rule("x", " ", 0), rule("ab", "z", 3)}, "c abx", "c z"}, {[]api.Rule{rule("x", " ", 0), rule("ab", "z", 3)}, "c xabx", "c z"}, {[]api.Rule{rule("bc", "b", 0), rule("ab", "b", 0)}, "aaaacccc", "aaaacccc"}, {[]api.Rule{rule("bc", "b", 0), rule("ab", "b", 0)}, "aaabccc", "b"}, {[]api.Rule{rule("c", "b", 0), rule("aaab", "d", 0)}, "xaaac", "xd"}, {[]api.Rule{rule("c", "b", 0), rule("aaab", "d", 1)}, "aaac", "d"}, {[]api.Rule{rule("c", "", 1), rule("aaab", "d", 1)}, "caaab", "d"}, {[]api.Rule{rule("c", "", 3), rule("aaab", "d", 1)}, "c aaab", "d"},
	} {
		check(t, x.l, x.s)
		if s, e := Apply(x.l, x.s); s != x.want || e != api.OK {
			t.Errorf("Apply %d: %q %d", i, s, e)
		}
	}
}

func TestApplyErrors(t *testing.T) {
	bad := []api.Rule{rule("b", "a", 0), rule("a", "b", 0)}
	many := slices.Repeat([]api.Rule{rule("b", "a", 0)}, 33)
	for i, x := range []struct {
		l []api.Rule
		s string
		e api.Errno
	}{
		{bad, "abc", api.ErrInvalid}, {bad, "", api.ErrInvalid}, {bad, strings.Repeat("x", 257), api.ErrInvalid}, {many, "", api.ErrInvalid}, {many, strings.Repeat("x", 1000), api.ErrInvalid}, {many[:32], "b", api.OK}, {[]api.Rule{{}}, "", api.ErrInvalid},
		{nil, strings.Repeat("x", 257), api.ErrLimit}, {many[:32], strings.Repeat(" ", 257), api.ErrLimit}, {nil, strings.Repeat("\xff", 257), api.ErrLimit}, {nil, strings.Repeat("\u00e4", 129), api.ErrLimit}, {nil, strings.Repeat("x", 256), api.OK}, {many[:32], strings.Repeat("b", 256), api.OK}, {nil, strings.Repeat("\u00e4", 128), api.OK}, {nil, strings.Repeat("\xff", 256), api.OK}, {nil, strings.Repeat("x", 1<<20), api.ErrLimit},
	} {
		if s, e := Apply(x.l, x.s); e != x.e || e != api.OK && s != "" {
			t.Errorf("Apply %d: %q %d", i, s, e)
		}
	}
}

// The longest ways that single letters can go, one after the other to the least.
func TestApplyLongWays(t *testing.T) {
	letters := " 0123456789abcdefghijklmnopqrstuvwxyz"
	for _, n := range []int{1, 5, 32} {
		var l []api.Rule
		for i := range n {
			l = append(l, rule(letters[36-i:37-i], letters[35-i:36-i], 0))
		}
		want := letters[36-n : 37-n]
		if s, e := Apply(l, strings.Repeat("z", 256)); e != api.OK || s != strings.Repeat(want, 256) {
			t.Errorf("Apply %d: %q %d", n, s, e)
		}
		if Clash(l, strings.Repeat("z", 60)) {
			t.Error("Clash", n)
		}
		slices.Reverse(l)
		if s, e := Apply(l, strings.Repeat("z", 256)); e != api.OK || s != strings.Repeat(want, 256) {
			t.Errorf("Apply in reverse %d: %q %d", n, s, e)
		}
	}
	if s, e := Apply([]api.Rule{rule("a", " ", 0)}, strings.Repeat("ab", 128)); e != api.OK || s != strings.TrimSpace(strings.Repeat(" b", 128)) {
		t.Errorf("Apply: %q %d", s, e)
	}
	for n := range 256 {
		long := strings.Repeat("b", n+1)
		if s, e := Apply([]api.Rule{rule(long, "a", 0), rule("ab", "a", 0)}, strings.Repeat("b", 256)); e != api.OK || s != "a" {
			t.Errorf("Apply %d: %q %d", n, s, e)
		}
	}
}

// P12.2

func TestClashExamples(t *testing.T) {
	for i, x := range []struct {
		l    []api.Rule
		s    string
		want bool
	}{
		{nil, "", false}, {nil, "abc", false}, {[]api.Rule{rule("x", "", 0)}, "abc", false}, {[]api.Rule{rule("a", "", 0)}, "abc", false}, {[]api.Rule{rule("a", "", 0)}, "aaa", false},
		{[]api.Rule{rule("ab", "c", 0), rule("bc", "a", 0)}, "abc", true}, {[]api.Rule{rule("ab", "c", 0), rule("bc", "a", 0)}, "A-B-C", false}, {[]api.Rule{rule("ab", "c", 0), rule("bc", "a", 0)}, "A.B'C", true}, {[]api.Rule{rule("ab", "c", 0), rule("bc", "a", 0)}, "ab", false},
		{[]api.Rule{rule("ab", "c", 0), rule("ab", "d", 0)}, "AB", true}, {[]api.Rule{rule("ab", "c", 0), rule("ab", "c", 0)}, "ab", false}, {[]api.Rule{rule("ab", "c", 0), rule("ab", "d", 0), rule("d", "c", 0)}, "ab", false}, {[]api.Rule{rule("ab", "c", 0), rule("ab", "d", 0), rule("d", "c", 1)}, "ab", false}, {[]api.Rule{rule("ab", "c", 0), rule("ab", "d", 0), rule("d", "c", 1)}, "xab", true},
		{[]api.Rule{rule("aa", "b", 0)}, "aaa", true}, {[]api.Rule{rule("aa", "b", 0)}, "aa", false}, {[]api.Rule{rule("aa", "b", 0)}, "aaaa", true}, {[]api.Rule{rule("aa", "b", 0)}, "aa aa", false}, {[]api.Rule{rule("aa", "a", 0)}, "aaaa", false}, {[]api.Rule{rule("aa", "", 0)}, "aaaaa", false}, {[]api.Rule{rule("aba", "c", 0)}, "ababa", true}, {[]api.Rule{rule("aba", "b", 0)}, "ababa", true}, {[]api.Rule{rule("aba", "a", 0)}, "ababa", false}, {[]api.Rule{rule("ab", "", 0)}, "abab", false},
		{[]api.Rule{rule("a", "", 1), rule("a", " ", 2)}, "a", false}, {[]api.Rule{rule("ab", "x", 1), rule("bc", "y", 2)}, "abc", true}, {[]api.Rule{rule("ab", "x", 1), rule("bc", "y", 2)}, "abcd", false}, {[]api.Rule{rule("a b", "x", 3), rule("b c", "y", 3)}, "a b c", true}, {[]api.Rule{rule("a b", "x", 3), rule("b c", "y", 3)}, "a b cd", false}, {[]api.Rule{rule("ph", "f", 0), rule("jr", "", 3)}, "Joseph Jr", false}, {[]api.Rule{rule("a", "", 3), rule(" b", "", 0)}, "a b", true}, {[]api.Rule{rule("x", "", 0), rule("ab", "c", 0), rule("bx", "d", 0)}, "abx", true}, {[]api.Rule{rule("a", "0", 0), rule("a", "1", 0), rule("1", "0", 2)}, "ba", false},
	} {
		check(t, x.l, x.s)
		if Clash(x.l, x.s) != x.want {
			t.Error("Clash", i)
		}
	}
}

// The last step of many may be the only one that leads elsewhere.
func TestClashAtTheEnd(t *testing.T) {
	l := []api.Rule{rule("a", "", 0), rule("xy", "", 2), rule("xy", "z", 2)}
	for n := range 50 {
		s := strings.Repeat("a", n)
		if Clash(l, s) || Clash(l[:2], s+"xy") || !Clash(l, s+"xy") {
			t.Error("Clash", n)
		}
	}
}

// P12.1 and P12.2: all pairs of short rules are too many, so they are drawn, as are longer lists and texts.

func TestEveryRuleAlone(t *testing.T) {
	texts := textsOf("ab ", 4)
	for _, r := range rulesOf("ab ", 3, 2) {
		for _, s := range texts {
			check(t, []api.Rule{r}, s)
		}
	}
}

func TestRandomPairs(t *testing.T) {
	random := rand.New(rand.NewSource(12))
	rules := rulesOf("ab ", 3, 2)
	texts := textsOf("ab ", 7)
	for range 60000 {
		l := []api.Rule{rules[random.Intn(len(rules))], rules[random.Intn(len(rules))]}
		check(t, l, texts[random.Intn(len(texts))])
	}
}

func TestRandomLists(t *testing.T) {
	random := rand.New(rand.NewSource(121))
	rules := rulesOf("abx ", 4, 2)
	for range 6000 {
		var l []api.Rule
		for range random.Intn(8) {
			l = append(l, rules[random.Intn(len(rules))])
		}
		var s string
		for range random.Intn(25) {
			s += []string{"a", "b", "x", " ", "A", "-", "B.", "\xff", "ab"}[random.Intn(9)]
		}
		check(t, l, s)
	}
}

// Rules that are long beside others that are short, on texts in which what is left of a step matches only after it.
func TestRandomLongRules(t *testing.T) {
	random := rand.New(rand.NewSource(122))
	letters := func(n int) string {
		var s string
		for range n {
			s += "aab "[random.Intn(4):][:1]
		}
		return s
	}
	for range 3000 {
		s := words.Fold(letters(40))
		l := []api.Rule{rule("x", "", 3), rule("y", " ", 0), rule("z", "b", 0), rule("w", "", 0)}
		for range 3 {
			at := random.Intn(len(s) - 12)
			n := 1 + random.Intn(12)
			l = append(l, rule(s[at:at+n], letters(random.Intn(n)), random.Intn(4)))
		}
		for range 6 {
			at := random.Intn(len(s) + 1)
			s = s[:at] + []string{" x ", "y", "z", "w"}[random.Intn(4)] + s[at:]
		}
		check(t, l, s)
	}
}

// P1 and rule 1: rules and texts that are not valid give an answer, too.

func TestStrangeArguments(t *testing.T) {
	long := strings.Repeat("ab", 5000)
	strange := []api.Rule{{}, rule("", "a", 0), rule("", "", 1), rule("", "x", 2), rule("", "x", 3), rule("a", "aa", 0), rule("a", "a", 0), rule("a", "b", -1), rule("A", "", 4), rule(long, "", 0), rule("b", long, 0), rule("\xff", "\u00e4", 1<<62)}
	for _, r := range strange {
		for _, s := range []string{"", "a", " ", "A", "\xff", "ab ba", long} {
			Matches(r, s)
			Once([]api.Rule{r, r}, s)
			Once(strange, s)
			if Clash([]api.Rule{r}, s) || Clash(strange, s) {
				t.Errorf("Clash %v", r)
			}
			if got, e := Apply([]api.Rule{r}, s); got != "" || e != api.ErrInvalid {
				t.Errorf("Apply %v: %q %d", r, got, e)
			}
		}
	}
	if Matches(rule("a", "", 4), "a") != -1 || Matches(rule("a", "", -1), "a") != -1 {
		t.Error("Matches: no place")
	}
	if Clash([]api.Rule{rule("aa", "b", 0)}, strings.Repeat("a", 257)) || !Clash([]api.Rule{rule("aa", "b", 0)}, strings.Repeat("a", 256)) {
		t.Error("Clash: a long text")
	}
	if Matches(rule("b", "", 0), strings.Repeat("a", 1<<20)) != -1 {
		t.Error("Matches: a long text")
	}
}

func TestArgumentsAreNotChanged(t *testing.T) {
	whole := []api.Rule{rule("b", "a", 0), rule("ca", "", 3), rule("a", "b", 9)}
	kept := slices.Clone(whole)
	l := whole[:2]
	for _, s := range []string{"cb", "ab ca", "B-C"} {
		Valid(l)
		Once(l, s)
		Apply(l, s)
		Clash(l, s)
		if !slices.Equal(whole, kept) {
			t.Fatalf("the rules have changed: %v", whole)
		}
	}
}

func TestCallsAtTheSameTime(t *testing.T) {
	l := []api.Rule{rule("ph", "f", 0), rule("jr", "", 3)}
	var all sync.WaitGroup
	wrong := make([]bool, 16)
	for i := range wrong {
		all.Add(1)
		go func() {
			defer all.Done()
			for range 200 {
				s, e := Apply(l, "Joseph Jr")
				wrong[i] = wrong[i] || s != "josef" || e != api.OK || Clash(l, "Joseph Jr")
			}
		}()
	}
	all.Wait()
	if slices.Contains(wrong, true) {
		t.Error("Apply at the same time")
	}
}
