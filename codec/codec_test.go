package codec

import (
	"encoding/binary"
	"math"
	"math/big"
	"slices"
	"strings"
	"testing"

	"reportescrow/api"
)

// numbers are those around every power of two, with both signs, and the ends.
func numbers() []int {
	l := []int{math.MinInt, math.MinInt + 1, math.MaxInt, math.MaxInt - 1}
	for k := range 62 {
		for d := -2; d <= 2; d++ {
			l = append(l, 1<<k+d, -(1<<k)+d)
		}
	}
	return l
}

// known is what a number is written as, by the library of Go.
func known(n int) string { return string(binary.AppendVarint(nil, int64(n))) }

// knownText and the next two follow the definitions with it.
func knownText(s string) string { return known(len(s)) + s }

func knownInts(l []int) string {
	s := known(len(l))
	for _, n := range l {
		s += known(n)
	}
	return s
}

func knownTexts(l []string) string {
	s := known(len(l))
	for _, x := range l {
		s += knownText(x)
	}
	return s
}

// reading is what a reading call answers, of whatever type.
type reading struct {
	value any
	at    int
	e     api.Errno
}

// readNumber is what Int has to answer, with numbers of any size.
func readNumber(b string, at int) (int, int, api.Errno) {
	if at < 0 || at > len(b) {
		return 0, at, api.ErrRange
	}
	u := new(big.Int)
	for i := 0; ; i++ {
		if i == 10 {
			return 0, at, api.ErrForm
		}
		if at+i >= len(b) {
			return 0, at, api.ErrMissing
		}
		c := int64(b[at+i])
		u.Add(u, new(big.Int).Lsh(big.NewInt(c%128), uint(7*i)))
		if c >= 128 {
			continue
		}
		if u.BitLen() > 64 || i > 0 && c == 0 {
			return 0, at, api.ErrForm
		}
		half := new(big.Int).Rsh(u, 1)
		if u.Bit(0) == 1 {
			half.Neg(half).Sub(half, big.NewInt(1))
		}
		return int(half.Int64()), at + i + 1, api.OK
	}
}

// strange are strings in which many things go wrong: of all bytes up to two, and of chosen ones after many groups.
func strange() []string {
	l := []string{""}
	for c := range 256 {
		l = append(l, string([]byte{byte(c)}))
		for d := range 256 {
			l = append(l, string([]byte{byte(c), byte(d)}))
		}
	}
	chosen := []string{"\x00", "\x01", "\x02", "\x03", "\x04", "\x7e", "\x7f", "\x80", "\x81", "\x82", "\xfe", "\xff"}
	for n := range 12 {
		for _, fill := range []string{"\x80", "\x81", "\xff", "\x00", "\x02", "\x04"} {
			for _, c := range chosen {
				for _, d := range chosen {
					l = append(l, strings.Repeat(fill, n)+c+d)
				}
			}
		}
	}
	return l
}

// P4.1: numbers, after what there was.
func TestPutInt(t *testing.T) {
	for _, c := range []struct {
		n    int
		want string
	}{{64, "\x80\x01"}, {-1, "\x01"}, {0, "\x00"}, {1, "\x02"}, {-64, "\x7f"}, {63, "\x7e"}, {-65, "\x81\x01"}, {math.MinInt, strings.Repeat("\xff", 9) + "\x01"}} {
		if got := PutInt("", c.n); got != c.want {
			t.Errorf("PutInt %d = %x, want %x", c.n, got, c.want)
		}
	}
	for _, n := range numbers() {
		for _, b := range []string{"", "\x80", "before"} {
			if got := PutInt(b, n); got != b+known(n) {
				t.Errorf("PutInt(%q, %d) = %x, want %x", b, n, got, b+known(n))
			}
		}
	}
}

// P4.1: texts, after what there was.
func TestPutText(t *testing.T) {
	for _, s := range []string{"", "ab", "\x00", "\xff\x80", "é", strings.Repeat("x", 63), strings.Repeat("x", 64), strings.Repeat("y", 8192), strings.Repeat("z", 5*api.MaxBytes)} {
		for _, b := range []string{"", "\x80", "before"} {
			if got := PutText(b, s); got != b+knownText(s) {
				t.Errorf("PutText(%q, %.9q): %d bytes", b, s, len(got))
			}
		}
	}
}

// P4.1: lists, after what there was. Those that are too long to be read are written, too.
func TestPutLists(t *testing.T) {
	for _, l := range [][]int{nil, {}, {0}, {5, -5, 64}, numbers(), make([]int, api.MaxElements), make([]int, api.MaxElements+1), make([]int, 5000)} {
		for _, b := range []string{"", "\x80", "before"} {
			if got := PutInts(b, l); got != b+knownInts(l) {
				t.Errorf("PutInts of %q and %d numbers: %d bytes", b, len(l), len(got))
			}
		}
	}
	for _, l := range [][]string{nil, {}, {""}, {"a", "", "\xffbc"}, {strings.Repeat("x", 100)}, make([]string, api.MaxItems), make([]string, api.MaxItems+1), make([]string, 5000)} {
		for _, b := range []string{"", "\x80", "before"} {
			if got := PutTexts(b, l); got != b+knownTexts(l) {
				t.Errorf("PutTexts of %q and %d texts: %d bytes", b, len(l), len(got))
			}
		}
	}
}

// P4.2: what was written as a number is read, and the position after it.
func TestIntReadsWhatWasWritten(t *testing.T) {
	for _, n := range numbers() {
		for _, before := range []string{"", "\x80", "before"} {
			for _, after := range []string{"", "\x00", "\xff", "after"} {
				b := before + known(n)
				if got, at, e := Int(b+after, len(before)); got != n || at != len(b) || e != api.OK {
					t.Errorf("Int of %x after %q = %d %d %d, want %d %d", known(n), before, got, at, e, n, len(b))
				}
			}
		}
	}
}

// P4.2: Int, of all that can go wrong in a string, at all positions.
func TestIntOfStrangeStrings(t *testing.T) {
	for _, b := range strange() {
		for at := -1; at <= len(b)+1; at++ {
			n, to, e := Int(b, at)
			wantN, wantTo, wantE := readNumber(b, at)
			if n != wantN || to != wantTo || e != wantE {
				t.Fatalf("Int(%x, %d) = %d %d %d, want %d %d %d", b, at, n, to, e, wantN, wantTo, wantE)
			}
			if e == api.OK && PutInt(b[:at], n) != b[:to] {
				t.Fatalf("Int(%x, %d) = %d, which is written in another way", b, at, n)
			}
		}
	}
}

// P4.2: the errors of numbers, one by one.
func TestIntErrors(t *testing.T) {
	nine := strings.Repeat("\x80", 9)
	for _, c := range []struct {
		b    string
		want api.Errno
	}{
		{"", api.ErrMissing}, {"\x80", api.ErrMissing}, {"\xff\xff", api.ErrMissing}, {nine, api.ErrMissing},
		{"\x80\x00", api.ErrForm}, {"\xff\x00", api.ErrForm}, {"\x80\x80\x00", api.ErrForm}, {nine + "\x00", api.ErrForm},
		{nine + "\x02", api.ErrForm}, {nine + "\x7f", api.ErrForm}, {nine + "\x80", api.ErrForm}, {nine + "\x81\x00", api.ErrForm}, {nine + "\x80\x01", api.ErrForm},
		{nine + "\x01", api.OK}, {"\x00", api.OK}, {"\x81\x01", api.OK},
	} {
		for _, before := range []string{"", "\x80", "xyz"} {
			n, at, e := Int(before+c.b, len(before))
			if e != c.want || e != api.OK && (n != 0 || at != len(before)) {
				t.Errorf("Int of %x after %q = %d %d %d, want error %d", c.b, before, n, at, e, c.want)
			}
		}
	}
}

// all calls each function that reads, with one string and position.
func all(b string, at int) [4]reading {
	n, nAt, nE := Int(b, at)
	s, sAt, sE := Text(b, at)
	l, lAt, lE := Ints(b, at)
	m, mAt, mE := Texts(b, at)
	return [4]reading{{n, nAt, nE}, {s, sAt, sE}, {l, lAt, lE}, {m, mAt, mE}}
}

// empty tells whether a value is what stands beside an error.
func empty(v any) bool {
	switch v := v.(type) {
	case int:
		return v == 0
	case string:
		return v == ""
	case []int:
		return len(v) == 0
	case []string:
		return len(v) == 0
	}
	return false
}

// P4.2, P1: positions outside, of all functions, whatever the string has.
func TestPositionsOutside(t *testing.T) {
	for _, b := range []string{"", "\x00", "\x80", "\x80\x00", "\x01", "\x02\x02"} {
		for _, at := range []int{math.MinInt, math.MinInt + 1, -1 << 32, -2, -1, len(b) + 1, len(b) + 2, 1 << 32, math.MaxInt - 1, math.MaxInt} {
			for i, r := range all(b, at) {
				if r.e != api.ErrRange || r.at != at || !empty(r.value) {
					t.Errorf("call %d of %x at %d: %v", i, b, at, r)
				}
			}
		}
		for i, r := range all(b, len(b)) {
			if r.e != api.ErrMissing || r.at != len(b) || !empty(r.value) {
				t.Errorf("call %d of %x at its end: %v", i, b, r)
			}
		}
	}
}

// P4.2: an error comes with the position and nothing else; without one, what is read is written in one way.
func TestOneWayToWrite(t *testing.T) {
	for _, b := range strange() {
		for at := range len(b) + 1 {
			var again [4]string
			readings := all(b, at)
			for i, r := range readings {
				if r.e != api.OK && (r.at != at || !empty(r.value)) {
					t.Fatalf("call %d of %x at %d: %v", i, b, at, r)
				}
				switch v := r.value.(type) {
				case int:
					again[i] = PutInt(b[:at], v)
				case string:
					again[i] = PutText(b[:at], v)
				case []int:
					again[i] = PutInts(b[:at], v)
				case []string:
					again[i] = PutTexts(b[:at], v)
				}
				if r.e == api.OK && again[i] != b[:r.at] {
					t.Fatalf("call %d of %x at %d reads %v up to %d, which is written as %x", i, b, at, r.value, r.at, again[i])
				}
			}
		}
	}
}

// P4.2: what was written as a text is read; each beginning of it lacks something.
func TestText(t *testing.T) {
	for _, s := range []string{"", "a", "ab", "\x00\xff", "é", strings.Repeat("x", 63), strings.Repeat("x", 64), strings.Repeat("\x80", 300), strings.Repeat("y", 5*api.MaxBytes)} {
		for _, before := range []string{"", "\x80", "before"} {
			whole := before + knownText(s)
			for _, after := range []string{"", "\x00", "after"} {
				if got, at, e := Text(whole+after, len(before)); got != s || at != len(whole) || e != api.OK {
					t.Errorf("Text of %d bytes after %q: %d bytes, %d, %d", len(s), before, len(got), at, e)
				}
			}
			for k := len(before); k < len(whole); k += 1 + len(s)/500 {
				if got, at, e := Text(whole[:k], len(before)); got != "" || at != len(before) || e != api.ErrMissing {
					t.Errorf("Text of %d bytes of %d: %q %d %d", k, len(whole), got, at, e)
				}
			}
		}
	}
}

// P4.2: the errors of texts.
func TestTextErrors(t *testing.T) {
	for _, c := range []struct {
		b    string
		want api.Errno
	}{
		{"", api.ErrMissing}, {"\x80", api.ErrMissing}, {"\x02", api.ErrMissing}, {"\x04a", api.ErrMissing},
		{"\x80\x00", api.ErrForm}, {strings.Repeat("\xff", 10), api.ErrForm},
		{"\x01", api.ErrForm}, {"\x01abc", api.ErrForm}, {"\x03ab", api.ErrForm}, {known(math.MinInt) + "a", api.ErrForm},
		{known(math.MaxInt) + "a", api.ErrMissing}, {known(math.MaxInt-1) + "abc", api.ErrMissing}, {known(1<<32+1) + "a", api.ErrMissing},
		{"\x00", api.OK}, {"\x02a", api.OK}, {"\x02ab", api.OK},
	} {
		for _, before := range []string{"", "\x80", "xyz"} {
			s, at, e := Text(before+c.b, len(before))
			if e != c.want || e != api.OK && (s != "" || at != len(before)) {
				t.Errorf("Text of %x after %q = %q %d %d, want error %d", c.b, before, s, at, e, c.want)
			}
		}
	}
}

// P4.2: what was written as a list is read; each beginning of it lacks something.
func TestInts(t *testing.T) {
	for _, l := range [][]int{nil, {0}, {5, -5, 64}, numbers(), make([]int, api.MaxElements-1), make([]int, api.MaxElements)} {
		for _, before := range []string{"", "\x80", "before"} {
			whole := before + knownInts(l)
			for _, after := range []string{"", "\x00", "after"} {
				if got, at, e := Ints(whole+after, len(before)); !slices.Equal(got, l) || at != len(whole) || e != api.OK {
					t.Errorf("Ints of %d numbers after %q: %d, %d, %d", len(l), before, len(got), at, e)
				}
			}
			for k := len(before); k < len(whole); k++ {
				if got, at, e := Ints(whole[:k], len(before)); len(got) != 0 || at != len(before) || e != api.ErrMissing {
					t.Fatalf("Ints of %d bytes of %d: %d, %d, %d", k, len(whole), len(got), at, e)
				}
			}
		}
	}
}

// P4.2: the same of texts.
func TestTexts(t *testing.T) {
	long := slices.Repeat([]string{strings.Repeat("x", api.MaxBytes)}, api.MaxItems)
	for _, l := range [][]string{nil, {""}, {"a", "", "\xffbc"}, {strings.Repeat("x", 100), "y"}, make([]string, api.MaxItems-1), make([]string, api.MaxItems), long} {
		for _, before := range []string{"", "\x80", "before"} {
			whole := PutTexts(before, l)
			for _, after := range []string{"", "\x00", "after"} {
				if got, at, e := Texts(whole+after, len(before)); !slices.Equal(got, l) || at != len(whole) || e != api.OK {
					t.Errorf("Texts of %d texts after %q: %d, %d, %d", len(l), before, len(got), at, e)
				}
			}
			for k := len(before); k < len(whole); k += 1 + len(whole)/1000 {
				if got, at, e := Texts(whole[:k], len(before)); len(got) != 0 || at != len(before) || e != api.ErrMissing {
					t.Fatalf("Texts of %d bytes of %d: %d, %d, %d", k, len(whole), len(got), at, e)
				}
			}
		}
	}
}

// P4.2: the errors of lists; the first one in the string decides, and that of the limit comes before the items.
func TestListErrors(t *testing.T) {
	for _, c := range []struct {
		b           string
		ints, texts api.Errno
	}{
		{"", api.ErrMissing, api.ErrMissing}, {"\x80", api.ErrMissing, api.ErrMissing}, {"\x80\x00", api.ErrForm, api.ErrForm},
		{"\x01", api.ErrForm, api.ErrForm}, {"\x01\x00\x00", api.ErrForm, api.ErrForm}, {known(math.MinInt), api.ErrForm, api.ErrForm},
		{known(api.MaxItems), api.ErrMissing, api.ErrMissing}, {known(api.MaxItems + 1), api.ErrMissing, api.ErrLimit},
		{known(api.MaxElements), api.ErrMissing, api.ErrLimit}, {known(api.MaxElements + 1), api.ErrLimit, api.ErrLimit},
		{known(math.MaxInt), api.ErrLimit, api.ErrLimit}, {known(1 << 32), api.ErrLimit, api.ErrLimit},
		{known(api.MaxElements+1) + "\x80\x00", api.ErrLimit, api.ErrLimit}, {known(api.MaxElements) + "\x80\x00", api.ErrForm, api.ErrLimit},
		{knownInts(make([]int, api.MaxElements+1)), api.ErrLimit, api.ErrLimit}, {knownInts(make([]int, api.MaxItems+1)), api.OK, api.ErrLimit},
		{"\x02\x80\x00", api.ErrForm, api.ErrForm}, {"\x04\x00\x80\x00", api.ErrForm, api.ErrForm}, {"\x04\x00\x80", api.ErrMissing, api.ErrMissing},
		{"\x04\x80\x00", api.ErrForm, api.ErrForm}, {"\x04\x01\x80\x00", api.ErrForm, api.ErrForm}, {"\x02\x01", api.OK, api.ErrForm},
		{"\x04\x06\x01", api.OK, api.ErrMissing}, {"\x04\x06\x80\x00", api.ErrForm, api.ErrMissing}, {"\x04\x02\x80\x00", api.ErrForm, api.OK},
		{"\x04\x04ab\x80\x00", api.OK, api.ErrForm}, {"\x04\x02\x01\x01", api.OK, api.ErrForm}, {"\x02\x02", api.OK, api.ErrMissing},
		{"\x02" + known(math.MaxInt), api.OK, api.ErrMissing}, {"\x00", api.OK, api.OK}, {"\x00\x80\x00", api.OK, api.OK},
	} {
		for _, before := range []string{"", "\x80", "xyz"} {
			l, at, e := Ints(before+c.b, len(before))
			if e != c.ints || e != api.OK && (len(l) != 0 || at != len(before)) {
				t.Errorf("Ints of %.9x after %q = %d numbers, %d, %d, want error %d", c.b, before, len(l), at, e, c.ints)
			}
			m, to, f := Texts(before+c.b, len(before))
			if f != c.texts || f != api.OK && (len(m) != 0 || to != len(before)) {
				t.Errorf("Texts of %.9x after %q = %d texts, %d, %d, want error %d", c.b, before, len(m), to, f, c.texts)
			}
		}
	}
}

// Rule 1: arguments stay as they are, beyond their length, too, and a result is new each time.
func TestArgumentsAndResults(t *testing.T) {
	numbers, texts := []int{1, 2, 3, 4}, []string{"a", "b", "c", "d"}
	PutInts("", numbers[:2])
	PutTexts("", texts[:2])
	if !slices.Equal(numbers, []int{1, 2, 3, 4}) || !slices.Equal(texts, []string{"a", "b", "c", "d"}) {
		t.Error("an argument was changed", numbers, texts)
	}
	b := knownInts([]int{7, 8}) + knownTexts([]string{"x", "y"})
	first, at, _ := Ints(b, 0)
	words, _, _ := Texts(b, at)
	first[0], words[0] = 9, "z"
	second, _, _ := Ints(b, 0)
	others, _, _ := Texts(b, at)
	if !slices.Equal(second, []int{7, 8}) || !slices.Equal(others, []string{"x", "y"}) {
		t.Error("results share memory", second, others)
	}
}
