package words

import (
	"fmt"
	"math/rand"
	"regexp"
	"slices"
	"strings"
	"sync"
	"testing"
	"unicode/utf8"
)

// wantedLetters are the code points other than a to z and 0 to 9 that become letters, by number and by what they become.
var wantedLetters = map[string][]rune{
	"a":  {'A', 0xC0, 0xC1, 0xC2, 0xC3, 0xE0, 0xE1, 0xE2, 0xE3},
	"aa": {0xC5, 0xE5},
	"ae": {0xC4, 0xC6, 0xE4, 0xE6},
	"c":  {'C', 0xC7, 0xE7},
	"e":  {'E', 0xC8, 0xC9, 0xCA, 0xCB, 0xE8, 0xE9, 0xEA, 0xEB},
	"i":  {'I', 0xCC, 0xCD, 0xCE, 0xCF, 0xEC, 0xED, 0xEE, 0xEF},
	"n":  {'N', 0xD1, 0xF1},
	"o":  {'O', 0xD2, 0xD3, 0xD4, 0xD5, 0xF2, 0xF3, 0xF4, 0xF5},
	"oe": {0xD6, 0xD8, 0xF6, 0xF8},
	"ss": {0xDF},
	"u":  {'U', 0xD9, 0xDA, 0xDB, 0xF9, 0xFA, 0xFB},
	"ue": {0xDC, 0xFC},
	"y":  {'Y', 0xDD, 0xFD, 0xFF},
	"b":  {'B'}, "d": {'D'}, "f": {'F'}, "g": {'G'}, "h": {'H'}, "j": {'J'}, "k": {'K'}, "l": {'L'}, "m": {'M'}, "p": {'P'}, "q": {'Q'}, "r": {'R'}, "s": {'S'}, "t": {'T'}, "v": {'V'}, "w": {'W'}, "x": {'X'}, "z": {'Z'},
}

const wantedAlphabet = "abcdefghijklmnopqrstuvwxyz0123456789"

// wanted is what each code point becomes; those that are not in it become a space.
func wanted() map[rune]string {
	m := map[rune]string{0x27: "", 0x2019: "", 0x2E: ""}
	for s, points := range wantedLetters {
		for _, r := range points {
			m[r] = s
		}
	}
	for i := range len(wantedAlphabet) {
		m[rune(wantedAlphabet[i])] = wantedAlphabet[i : i+1]
	}
	return m
}

var spaces = regexp.MustCompile(` +`)

// folded is what Fold returns, step by step as the chapter says it.
func folded(m map[rune]string, s string) string {
	var t string
	for len(s) > 0 {
		r, n := utf8.DecodeRuneInString(s)
		broken := r == utf8.RuneError && n == 1
		s = s[n:]
		if broken {
			continue
		}
		if x, ok := m[r]; ok {
			t += x
		} else {
			t += " "
		}
	}
	return strings.Trim(spaces.ReplaceAllString(t, " "), " ")
}

var (
	plainText = regexp.MustCompile(`\A([a-z0-9]+( [a-z0-9]+)*)?\z`)
	word      = regexp.MustCompile(`\A[a-z0-9]+\z`)
)

// check compares all that the layer says of a text with its folded text.
func check(t *testing.T, s, want string) {
	t.Helper()
	got := Fold(s)
	if got != want || !plainText.MatchString(got) {
		t.Errorf("Fold %q: %q, not %q", s, got, want)
	}
	if Plain(s) != (s == want) || Plain(s) != plainText.MatchString(s) {
		t.Errorf("Plain %q: %v", s, Plain(s))
	}
	if Fold(got) != got || !Plain(got) {
		t.Errorf("Fold twice %q: %q", s, Fold(got))
	}
	l := Split(s)
	if Join(l) != want || !slices.Equal(l, Split(want)) {
		t.Errorf("Split %q: %q", s, l)
	}
	count := 0
	if want != "" {
		count = strings.Count(want, " ") + 1
	}
	if len(l) != count {
		t.Errorf("Split %q: %d words", s, len(l))
	}
	for _, x := range l {
		if !word.MatchString(x) {
			t.Errorf("Split %q: the word %q", s, x)
		}
	}
}

// P11.1

func TestLetter(t *testing.T) {
	for c := range 256 {
		if Letter(byte(c)) != strings.Contains(wantedAlphabet, string([]byte{byte(c)})) {
			t.Error("Letter", c)
		}
	}
}

// Every number that may be a code point, alone and between letters; those that are none come as U+FFFD, which is a space.
func TestEveryCodePoint(t *testing.T) {
	m := wanted()
	for r := rune(0); r <= utf8.MaxRune; r++ {
		c := string(r)
		want, ok := m[r]
		if !ok {
			want = " "
		}
		alone := strings.TrimSpace(want)
		if x := Fold(c); x != alone {
			t.Errorf("Fold %U: %q", r, x)
		}
		if x := Fold("x" + c + "9"); x != "x"+want+"9" {
			t.Errorf("Fold %U between letters: %q", r, x)
		}
		if Plain(c) != (len(c) == 1 && strings.Contains(wantedAlphabet, c)) {
			t.Errorf("Plain %U", r)
		}
	}
}

// What is made at start-up is what Fold does with each code point.
func TestSpellings(t *testing.T) {
	m := wanted()
	for r := rune(0xDF); r <= 0xFF; r++ {
		want, ok := m[r]
		if !ok {
			want = " "
		}
		if x := spellings[r-0xDF]; x != want {
			t.Errorf("spellings %U: %q", r, x)
		}
	}
	if len(spellings) != 0xFF-0xDF+1 {
		t.Error("spellings", len(spellings))
	}
}

func TestFoldExamples(t *testing.T) {
	m := wanted()
	for i, x := range []struct{ s, want string }{
		{"", ""}, {"a", "a"}, {"Z", "z"}, {"abcdefghijklmnopqrstuvwxyz0123456789", wantedAlphabet}, {"ABCDEFGHIJKLMNOPQRSTUVWXYZ", wantedAlphabet[:26]},
		{"O'Brien-Müller", "obrien mueller"}, {"O\u2019Brien\u2014M\u00fcller", "obrien mueller"}, {"D'Angelo", "dangelo"}, {"O\u2018Brien", "o brien"}, {"O`Brien", "o brien"}, {"O\u02bcBrien", "o brien"}, {"O\u2032Brien", "o brien"}, {"\"Bob\"", "bob"},
		{"Dr. J. R. Smith, Jr.", "dr j r smith jr"}, {"J.R.R. Tolkien", "jrr tolkien"}, {"St.Clair", "stclair"}, {"a.b", "ab"}, {"a..b", "ab"}, {"a . b", "a b"}, {"a ' b", "a b"}, {"a. b", "a b"}, {"a .b", "a b"}, {"...", ""}, {"'", ""}, {"\u2019\u2019", ""}, {" . ' ", ""},
		{"\u00c4\u00d6\u00dc\u00e4\u00f6\u00fc\u00df", "aeoeueaeoeuess"}, {"\u00c5ngstr\u00f6m", "aangstroem"}, {"S\u00f8ren \u00c6r\u00f8", "soeren aeroe"}, {"Fran\u00e7ois N\u00fa\u00f1ez", "francois nunez"}, {"Zo\u00eb \u00cele", "zoe ile"}, {"\u00ddmir \u00ff", "ymir y"}, {"STRASSE Stra\u00dfe", "strasse strasse"},
		{"\u1e9e", ""}, {"a\u1e9eb", "a b"}, {"a\u0178b", "a b"}, {"\u0152uvre", "uvre"}, {"\u0160ime \u017dupan", "ime upan"}, {"\u0141ukasz", "ukasz"}, {"a\u00d7b\u00f7c", "a b c"}, {"\u00d0\u00f0\u00de\u00fe", ""}, {"a\u00d0b\u00f0c\u00ded\u00fee", "a b c d e"}, {"\u00aa\u00ba\u00b2", ""}, {"1\u00bd", "1"}, {"\u212b\u212a", ""}, {"\uff21\uff42", ""}, {"\u0660", ""},
		{"Mu\u0308ller", "mu ller"}, {"Nun\u0303ez", "nun ez"}, {"a\u0308", "a"}, {"\u0308a", "a"}, {"\u65e5\u672c", ""}, {"a\u65e5b", "a b"}, {"\u03b1\u0430", ""}, {"a\U0001f600b", "a b"},
		{"  ", ""}, {" a", "a"}, {"a ", "a"}, {"  a   b  ", "a b"}, {"a\tb\nc\rd\ve\ff", "a b c d e f"}, {"a\u00a0b\u2003c\u200bd", "a b c d"}, {"a\x00b\x7fc", "a b c"}, {"a_b-c/d,e;f:g@h", "a b c d e f g h"}, {"-a-", "a"}, {"a--b", "a b"}, {"3rd", "3rd"}, {"(3)", "3"}, {"@[`{/:", ""},
	} {
		if folded(m, x.s) != x.want {
			t.Error("the example is wrong", i)
		}
		check(t, x.s, x.want)
	}
}

// Bytes that are no valid UTF-8 are dropped; U+FFFD that is written is a space.
func TestBrokenBytes(t *testing.T) {
	m := wanted()
	for i, x := range []struct{ s, want string }{
		{"\xff", ""}, {"\x80", ""}, {"\xc3", ""}, {"x\xffy", "xy"}, {"x\xff\xfe\x80y", "xy"}, {"x\uFFFDy", "x y"}, {"\uFFFD", ""}, {"x\uFFFD\xff\uFFFDy", "x y"}, {"x\xff y", "x y"}, {"\xffx \xff y\xff", "x y"}, {"x \xff", "x"}, {"\xff x", "x"},
		{"\xc3x", "x"}, {"x\xc3", "x"}, {"x\xc3\xffy", "xy"}, {"\xc3\xff\xa4", ""}, {"\xc3\xc3\xa4", "ae"}, {"\xc3\xa4\xa4", "ae"}, {"\xe4", ""}, {"M\xfcller", "mller"}, {"O\x92Brien", "obrien"}, {"x\xe2\x80y", "xy"}, {"\xe2\x80\xff\x99", ""}, {"x\xf0\x9f\x98y", "xy"}, {"\xef\xbf", ""}, {"x\xef\xbfy", "xy"}, {"x\xef\xbf\xbd", "x"}, {"x\xef\xbf\xbdy", "x y"},
		{"x\xc1\x81y", "xy"}, {"x\xc0\xaey", "xy"}, {"x\xe0\x83\xa4y", "xy"}, {"x\xed\xa0\x80y", "xy"}, {"x\xf4\x90\x80\x80y", "xy"}, {"x\xf5\x80\x80\x80y", "xy"}, {"x\xf8\x88\x80\x80\x80y", "xy"}, {"x\xed\x9f\xbfy", "x y"}, {"x\xee\x80\x80y", "x y"}, {"x\xf4\x8f\xbf\xbfy", "x y"},
	} {
		if folded(m, x.s) != x.want {
			t.Error("the example is wrong", i)
		}
		check(t, x.s, x.want)
	}
}

// All texts of one byte and of two, between letters, too.
func TestAllPairsOfBytes(t *testing.T) {
	m := wanted()
	for a := range 256 {
		one := string([]byte{byte(a)})
		check(t, one, folded(m, one))
		for b := range 256 {
			two := one + string([]byte{byte(b)})
			check(t, two, folded(m, two))
			check(t, "x"+two+"y", folded(m, "x"+two+"y"))
		}
	}
}

// pieces are one of each way in which a part of a text is folded.
var pieces = []string{"a", "B", "7", " ", "-", "\u00d7", "'", "\u2019", ".", "\u00c5", "\u00df", "\u00e9", "\xff", "\xc3", "\xa4", "\uFFFD", "\u65e5"}

// All texts of at most four pieces.
func TestAllShortTexts(t *testing.T) {
	m := wanted()
	texts := []string{""}
	for range 4 {
		var longer []string
		for _, s := range texts {
			for _, piece := range pieces {
				longer = append(longer, s+piece)
				check(t, s+piece, folded(m, s+piece))
			}
		}
		texts = longer
	}
}

func TestRandomTexts(t *testing.T) {
	m := wanted()
	random := rand.New(rand.NewSource(11))
	for range 20000 {
		var s string
		for range random.Intn(30) {
			switch random.Intn(4) {
			case 0:
				s += pieces[random.Intn(len(pieces))]
			case 1:
				s += string(rune(random.Intn(0x180)))
			case 2:
				s += string([]byte{byte(random.Intn(256))})
			default:
				s += wantedAlphabet[random.Intn(36):][:1]
			}
		}
		check(t, s, folded(m, s))
	}
}

func TestPlainExamples(t *testing.T) {
	for _, s := range []string{"", "a", "0", "robert", "obrien mueller", "a b c", "3rd", "a 1 b 2", wantedAlphabet} {
		if !Plain(s) || Fold(s) != s {
			t.Errorf("Plain %q", s)
		}
	}
	for _, s := range []string{" ", "  ", " a", "a ", "a  b", "A", "aB", "a-b", "a.b", "a'b", "a.", "'", ".", "\u2019", "\u00e4", "\u00e9", "a\tb", "a\n", "\xff", "a\xff", "\xffa b", "\uFFFD", "a\u00a0b", "a_b", "\x00", "\u65e5"} {
		if Plain(s) {
			t.Errorf("Plain %q", s)
		}
	}
}

// P11.2

func TestSplitExamples(t *testing.T) {
	for i, x := range []struct {
		s    string
		want []string
	}{
		{"", nil}, {" ", nil}, {"   ", nil}, {"'.", nil}, {"\xff", nil}, {"\u65e5", nil}, {"-", nil}, {"a", []string{"a"}}, {"A", []string{"a"}}, {" a ", []string{"a"}}, {"a b", []string{"a", "b"}}, {"a  b", []string{"a", "b"}}, {"a b a", []string{"a", "b", "a"}}, {"b a", []string{"b", "a"}},
		{"O'Brien-M\u00fcller", []string{"obrien", "mueller"}}, {"Dr. J. Smith\t(3rd)", []string{"dr", "j", "smith", "3rd"}}, {"a.b 'c' d\xffe", []string{"ab", "c", "de"}}, {"a\u00d7b", []string{"a", "b"}}, {"x\uFFFDy", []string{"x", "y"}}, {"\u00c5 \u00df", []string{"aa", "ss"}}, {"1 2", []string{"1", "2"}},
	} {
		if l := Split(x.s); !slices.Equal(l, x.want) {
			t.Errorf("Split %d %q: %q", i, x.s, l)
		}
	}
}

// Join takes words as they are: it folds nothing, and empty ones have their spaces.
func TestJoin(t *testing.T) {
	for i, x := range []struct {
		l    []string
		want string
	}{
		{nil, ""}, {[]string{}, ""}, {[]string{""}, ""}, {[]string{"a"}, "a"}, {[]string{"a", "b"}, "a b"}, {[]string{"b", "a", "b"}, "b a b"}, {[]string{"", ""}, " "}, {[]string{"a", "", "b c"}, "a  b c"}, {[]string{"", "a", ""}, " a "}, {[]string{" ", " "}, "   "},
		{[]string{"A.", "\u00e4", "\xff"}, "A. \u00e4 \xff"}, {[]string{"a\x00", "\n"}, "a\x00 \n"}, {[]string{"\xc3", "\xa4"}, "\xc3 \xa4"}, {[]string{"O'Brien-", "M"}, "O'Brien- M"},
	} {
		if s := Join(x.l); s != x.want {
			t.Errorf("Join %d %q: %q", i, x.l, s)
		}
	}
	for n := range 100 {
		if s := Join(slices.Repeat([]string{"ab"}, n)); s != strings.TrimSuffix(strings.Repeat("ab ", n), " ") {
			t.Errorf("Join %d: %q", n, s)
		}
	}
}

// Consequences: words that are plain come back from their text, and a text that is changed in what is folded away stays what it is.
func TestWordsComeBack(t *testing.T) {
	random := rand.New(rand.NewSource(112))
	between := []string{" ", "  ", "-", ", ", " '", ". ", "\t", "\u00a0", "\uFFFD", "\xff ", " \u2019 "}
	within := []string{"", "", "", "'", ".", "\u2019", "\xff", "\xe2\x80"}
	for range 5000 {
		var l []string
		var s string
		for i := range random.Intn(8) {
			if i > 0 {
				s += between[random.Intn(len(between))]
			}
			var x string
			for range 1 + random.Intn(6) {
				c := wantedAlphabet[random.Intn(36):][:1]
				x += c
				if random.Intn(2) == 0 {
					c = strings.ToUpper(c)
				}
				s += c + within[random.Intn(len(within))]
			}
			l = append(l, x)
		}
		if got := Split(Join(l)); !slices.Equal(got, l) || !Plain(Join(l)) {
			t.Errorf("Split of Join of %q: %q", l, got)
		}
		if got := Split(s); !slices.Equal(got, l) || Fold(s) != Join(l) {
			t.Errorf("Split %q: %q", s, got)
		}
	}
}

// P1 and rule 1

func TestLongTexts(t *testing.T) {
	const n = 1 << 18
	for i, x := range []struct {
		part string
		want string
	}{
		{"a", strings.Repeat("a", n)}, {"A ", strings.TrimSuffix(strings.Repeat("a ", n), " ")}, {" ", ""}, {"'", ""}, {"\xff", ""}, {"\xc3", ""}, {"\u2019", ""}, {"\u00c5", strings.Repeat("aa", n)}, {"\u65e5", ""}, {"\uFFFD", ""}, {"\x00", ""}, {".a-", strings.TrimSuffix(strings.Repeat("a ", n), " ")}, {"\xf0\x9f\x98", ""}, {"\u00df\xff", strings.Repeat("ss", n)},
	} {
		s := strings.Repeat(x.part, n)
		if Fold(s) != x.want || Plain(s) != (s == x.want) || Join(Split(s)) != x.want {
			t.Error("a long text", i)
		}
	}
	l := slices.Repeat([]string{"ab", ""}, n)
	if Join(l) != strings.Repeat("ab  ", n-1)+"ab " {
		t.Error("a long list")
	}
}

func TestArgumentsAndResultsAreApart(t *testing.T) {
	whole := []string{"a", "B.", "c", "d"}
	if Join(whole[:2]) != "a B." || !slices.Equal(whole, []string{"a", "B.", "c", "d"}) {
		t.Errorf("Join has changed its argument: %q", whole)
	}
	first := Split("A-B c")
	second := Split("A-B c")
	for i := range first {
		first[i] = "!"
	}
	_ = append(first, "!")
	if want := []string{"a", "b", "c"}; !slices.Equal(second, want) || !slices.Equal(Split("A-B c"), want) {
		t.Errorf("Split shares its result: %q", second)
	}
}

// Calls at the same time do not disturb each other.
func TestCallsAtTheSameTime(t *testing.T) {
	var all sync.WaitGroup
	wrong := make([]string, 16)
	for i := range wrong {
		all.Add(1)
		go func() {
			defer all.Done()
			for k := range 500 {
				s := fmt.Sprintf("\u00c5 %d'\xff-\u00e9%d", i, k)
				if want := fmt.Sprintf("aa %d e%d", i, k); Fold(s) != want || Join(Split(s)) != want || Plain(s) {
					wrong[i] = s
				}
			}
		}()
	}
	all.Wait()
	for _, s := range wrong {
		if s != "" {
			t.Errorf("Fold %q", s)
		}
	}
}
