package pack

import (
	"math"
	"math/big"
	"slices"
	"strings"
	"testing"

	"reportescrow/api"
)

// fields are permitted primes, around the ends of every width.
var fields = []struct{ p, width int }{
	{2, 0}, {3, 0}, {7, 0}, {251, 0},
	{257, 1}, {263, 1}, {65521, 1},
	{65537, 2}, {65539, 2}, {16777213, 2},
	{16777259, 3}, {api.Prime, 3}, {1<<30 - 35, 3},
}

// notPermitted are numbers that are no permitted primes.
var notPermitted = []int{math.MinInt, -7, -1, 0, 1, 4, 8, 256, 1 << 16, 1 << 24, 1 << 30, 1<<30 + 3, math.MaxInt}

// some is a string of n bytes in which the bytes differ, with bytes of all kinds.
func some(n int) string {
	b := make([]byte, n)
	for i := range b {
		b[i] = byte(i*i*37 + i*151 + 129)
	}
	return string(b)
}

// texts are strings of all short lengths, and some of one byte only.
func texts() []string {
	var l []string
	for n := range 26 {
		l = append(l, some(n), strings.Repeat("\x00", n), strings.Repeat("\xff", n), strings.Repeat("\x80", n))
	}
	return l
}

// elements are those of a string by the definition, with numbers of any size.
func elements(width int, s string) []int {
	var l []int
	if width == 0 {
		for i := range 8 * len(s) {
			l = append(l, int(s[i/8])/(1<<(7-i%8))%2)
		}
		return l
	}
	for from := 0; from < len(s); from += width {
		part := s[from:min(from+width, len(s))]
		l = append(l, int(new(big.Int).SetBytes([]byte(part)).Int64()))
	}
	return l
}

// P5.1: the width of a field is the greatest w from 0 to 3 with 256 to the power of w at most p.
func TestWidth(t *testing.T) {
	for _, f := range fields {
		if w := Width(f.p); w != f.width {
			t.Error(f.p, w)
		}
	}
}

// P5.1: as many elements as a byte is, or as there are whole groups of bytes, and one for what is left.
func TestCount(t *testing.T) {
	for _, f := range fields {
		for n := range 100 {
			if c := Count(f.p, n); c != len(elements(f.width, some(n))) {
				t.Error(f.p, n, c)
			}
		}
		for _, n := range []int{-1, -2, -3, -8, -1 << 30, -1 << 60, math.MinInt + 1, math.MinInt} {
			if c := Count(f.p, n); c != 0 {
				t.Error(f.p, n, c)
			}
		}
		for d := range 8 {
			n := 1<<57 - d
			want := 8 * n
			if f.width > 0 {
				want = int(new(big.Int).Div(big.NewInt(int64(n+f.width-1)), big.NewInt(int64(f.width))).Int64())
			}
			if c := Count(f.p, n); c != want {
				t.Error(f.p, n, c)
			}
		}
	}
}

// P5.1: Pack returns the elements, and Unpack of them the string.
func TestPackAndUnpack(t *testing.T) {
	for _, f := range fields {
		for _, s := range texts() {
			want := elements(f.width, s)
			l, e := Pack(f.p, s)
			if e != api.OK || !slices.Equal(l, want) {
				t.Errorf("Pack %d %x: %v %v", f.p, s, l, e)
			}
			back, e := Unpack(f.p, want, len(s))
			if e != api.OK || back != s {
				t.Errorf("Unpack %d %x: %x %v", f.p, s, back, e)
			}
			for _, x := range l {
				if x < 0 || x >= f.p {
					t.Errorf("Pack %d %x: %d is no element", f.p, s, x)
				}
			}
		}
	}
}

// P5.1: every byte is packed and unpacked, alone and before others.
func TestEveryByte(t *testing.T) {
	for _, f := range fields {
		for c := range 256 {
			for _, s := range []string{string([]byte{byte(c)}), string([]byte{byte(c), 1}), string([]byte{2, byte(c), 3}), string([]byte{4, 5, byte(c), 6})} {
				l, e := Pack(f.p, s)
				back, g := Unpack(f.p, l, len(s))
				if e != api.OK || g != api.OK || back != s || !slices.Equal(l, elements(f.width, s)) {
					t.Errorf("%d %x: %v %x %v %v", f.p, s, l, back, e, g)
				}
			}
		}
	}
}

// P5.1: the example of the chapter, and one with bits.
func TestPackExamples(t *testing.T) {
	for _, c := range []struct {
		p    int
		s    string
		want []int
	}{
		{api.Prime, "\x01\x02\x03\x04", []int{66051, 4}},
		{65537, "\x01\x02\x03", []int{258, 3}},
		{257, "\x01\xff\x00", []int{1, 255, 0}},
		{251, "\x01\xe0", []int{0, 0, 0, 0, 0, 0, 0, 1, 1, 1, 1, 0, 0, 0, 0, 0}},
		{7, "", nil},
		{api.Prime, "", nil},
	} {
		l, e := Pack(c.p, c.s)
		if e != api.OK || !slices.Equal(l, c.want) {
			t.Error(c.p, c.s, l, e)
		}
	}
}

// P5.1: the errors of Pack, in their order.
func TestPackErrors(t *testing.T) {
	for _, f := range fields {
		most := api.MaxElements * f.width
		if f.width == 0 {
			most = api.MaxElements / 8
		}
		s := some(most + 1)
		if l, e := Pack(f.p, s[:most]); e != api.OK || len(l) != api.MaxElements || !slices.Equal(l, elements(f.width, s[:most])) {
			t.Error(f.p, len(l), e)
		}
		if l, e := Pack(f.p, s); e != api.ErrLimit || len(l) != 0 {
			t.Error(f.p, len(l), e)
		}
	}
	for _, p := range notPermitted {
		for _, s := range []string{"", "a", strings.Repeat("a", 1<<16)} {
			if l, e := Pack(p, s); e != api.ErrRange || len(l) != 0 {
				t.Error(p, len(s), l, e)
			}
		}
	}
}

// P5.1: Unpack wants as many elements as the length has, no more and no fewer.
func TestUnpackCounts(t *testing.T) {
	for _, f := range fields {
		for length := range 26 {
			for n := range 30 {
				l := make([]int, n)
				s, e := Unpack(f.p, l, length)
				if n == len(elements(f.width, some(length))) {
					if e != api.OK || s != strings.Repeat("\x00", length) {
						t.Errorf("%d %d %d: %x %v", f.p, n, length, s, e)
					}
				} else if e != api.ErrForm || s != "" {
					t.Errorf("%d %d %d: %x %v", f.p, n, length, s, e)
				}
			}
		}
		for k := range 63 {
			for d := -9; d <= 9; d++ {
				length := 1<<k + d
				if length <= 0 {
					continue
				}
				if s, e := Unpack(f.p, nil, length); e != api.ErrForm || s != "" {
					t.Error(f.p, length, e)
				}
				if s, e := Unpack(f.p, []int{0, 0, 0, 0, 0, 0, 0, 0}, length); (e == api.OK) != (len(elements(f.width, some(min(length, 40)))) == 8) {
					t.Errorf("%d %d: %x %v", f.p, length, s, e)
				}
			}
		}
		for d := range 20 {
			if s, e := Unpack(f.p, []int{0}, math.MaxInt-d); e != api.ErrForm || s != "" {
				t.Error(f.p, d, e)
			}
		}
	}
}

// P5.1: Unpack wants numbers that so many bytes can be, in each place.
func TestUnpackNumbers(t *testing.T) {
	strange := []int{math.MinInt, -1 << 32, -1 << 24, -256, -1, 0, 1, 2, 255, 256, 257, 65535, 65536, 65537, 1<<24 - 1, 1 << 24, 1<<24 + 1, api.Prime - 1, api.Prime, 1 << 32, 1 << 40, 1 << 62, math.MaxInt}
	for _, f := range fields {
		for length := 1; length < 8; length++ {
			l := elements(f.width, some(length))
			for i := range l {
				left := 0 // bits
				if f.width > 0 {
					left = 8 * min(f.width, length-i*f.width)
				} else {
					left = 1
				}
				for _, x := range strange {
					m := slices.Clone(l)
					m[i] = x
					s, e := Unpack(f.p, m, length)
					if x >= 0 && x>>left == 0 {
						if e != api.OK || !slices.Equal(elements(f.width, s), m) || len(s) != length {
							t.Errorf("%d %v %d: %x %v", f.p, m, length, s, e)
						}
					} else if e != api.ErrForm || s != "" {
						t.Errorf("%d %v %d: %x %v", f.p, m, length, s, e)
					}
				}
			}
		}
	}
}

// P5.1: an element may be too great for bytes though it is one of the field.
func TestUnpackElementsThatAreNoBytes(t *testing.T) {
	for _, c := range []struct {
		p      int
		l      []int
		length int
	}{{257, []int{256}, 1}, {65537, []int{65536}, 2}, {16777259, []int{1 << 24}, 3}, {api.Prime, []int{api.Prime - 1}, 3}, {7, []int{0, 0, 0, 0, 0, 0, 0, 6}, 1}} {
		if s, e := Unpack(c.p, c.l, c.length); e != api.ErrForm || s != "" {
			t.Error(c, s, e)
		}
	}
}

// P5.1: the errors of Unpack, in their order.
func TestUnpackErrors(t *testing.T) {
	for _, p := range notPermitted {
		for _, length := range []int{math.MinInt, -1, 0, 1, math.MaxInt} {
			for _, l := range [][]int{nil, {0}, {-1}} {
				if s, e := Unpack(p, l, length); e != api.ErrRange || s != "" {
					t.Error(p, l, length, s, e)
				}
			}
		}
	}
	for _, f := range fields {
		for _, length := range []int{math.MinInt, -1 << 40, -8, -1} {
			for _, l := range [][]int{nil, {0}, {-1}} {
				if s, e := Unpack(f.p, l, length); e != api.ErrRange || s != "" {
					t.Error(f.p, l, length, s, e)
				}
			}
		}
		if s, e := Unpack(f.p, nil, 0); e != api.OK || s != "" {
			t.Error(f.p, s, e)
		}
	}
}

// P5.1: no limit is named for Unpack, so that more than MaxElements elements are a string, too.
func TestUnpackManyElements(t *testing.T) {
	s := some(8 * api.MaxElements)
	for _, f := range fields {
		if back, e := Unpack(f.p, elements(f.width, s), len(s)); e != api.OK || back != s {
			t.Error(f.p, len(back), e)
		}
	}
}

// lengthOf is the length of a padding by the definition: zero bytes are added until it is a multiple of the unit.
func lengthOf(n, unit int) int {
	n++
	for n%unit != 0 {
		n++
	}
	return n
}

func padded(s string, unit int) string {
	b := make([]byte, lengthOf(len(s), unit))
	copy(b, s)
	b[len(s)] = 128
	return string(b)
}

// P5.2: Pad adds a byte 128 and as few zero bytes as lead to a multiple of unit, and Strip takes them away.
func TestPadAndStrip(t *testing.T) {
	for _, unit := range []int{1, 2, 3, 4, 5, 7, 8, 16, 31, 64, 100, 1023, 1024} {
		for _, s := range append(texts(), some(63), some(64), some(65), some(1022), some(1023), some(1024), some(1025), some(2047)) {
			x, e := Pad(s, unit)
			if e != api.OK || x != padded(s, unit) {
				t.Errorf("Pad %x %d: %x %v", s, unit, x, e)
			}
			if back, e := Strip(x); e != api.OK || back != s {
				t.Errorf("Strip %x: %x %v", x, back, e)
			}
		}
	}
}

// P5.2: of the length no more can be seen than how many units there are.
func TestPadHidesLengths(t *testing.T) {
	for _, unit := range []int{1, 5, 64, 1024} {
		for n := range 3 * unit {
			if x, _ := Pad(some(n), unit); len(x) != (n/unit+1)*unit {
				t.Error(unit, n, len(x))
			}
		}
	}
}

// P5.2: the errors of Pad, in their order, and the greatest strings that can be padded.
func TestPadErrors(t *testing.T) {
	for _, unit := range []int{math.MinInt, -1024, -1, 0, 1025, 1 << 14, math.MaxInt} {
		for _, n := range []int{0, 1, api.MaxBytes, api.MaxBytes + 1} {
			if s, e := Pad(some(n), unit); e != api.ErrRange || s != "" {
				t.Error(unit, n, len(s), e)
			}
		}
	}
	for unit := 1; unit <= 1024; unit++ {
		most := api.MaxBytes/unit*unit - 1
		s := some(most + 1)
		if x, e := Pad(s[:most], unit); e != api.OK || x != s[:most]+"\x80" {
			t.Error(unit, len(x), e)
		}
		if x, e := Pad(s, unit); e != api.ErrLimit || x != "" {
			t.Error(unit, len(x), e)
		}
	}
	for _, n := range []int{api.MaxBytes, api.MaxBytes + 1, 1 << 20} {
		if x, e := Pad(some(n), 1); e != api.ErrLimit || x != "" {
			t.Error(n, len(x), e)
		}
	}
}

// isPadding tells by trying all units whether a string is a padding of the one that ends before its last byte 128.
func isPadding(s string) bool {
	at := strings.LastIndexByte(s, 128)
	if at < 0 || len(s) > api.MaxBytes || strings.Count(s[at:], "\x00") != len(s)-at-1 {
		return false
	}
	for unit := 1; unit <= 1024; unit++ {
		if lengthOf(at, unit) == len(s) {
			return true
		}
	}
	return false
}

// P5.2: Strip returns the string of which a string is a padding of some unit, and ErrForm if there is none.
func TestStrip(t *testing.T) {
	var l []string
	for _, start := range []string{"", "a", "\x00", "\x80", "\x80\x00", "ab", "ab\x00"} {
		for n := range 20 {
			zeros := strings.Repeat("\x00", n)
			l = append(l, start, start+zeros, start+"\x80"+zeros, start+"\x80"+zeros+"\x01", start+"\x81"+zeros, start+"\xff"+zeros, start+"\x80"+zeros+"\x80", start+"\x80"+zeros+"\x80"+zeros)
		}
	}
	for _, n := range []int{0, 1, 2, 10, 21, 100, 511, 512, 1000, 1022, 1023, 1024, 1025, 1500, 2047, 3000} {
		for _, zeros := range []int{0, 1, 5, 255, 511, 512, 600, 601, 682, 683, 700, 1000, 1020, 1021, 1022, 1023, 1024, 1025, 2047, 3000} {
			l = append(l, some(n)+"\x80"+strings.Repeat("\x00", zeros))
		}
	}
	for d := -3; d <= 3; d++ {
		l = append(l, some(api.MaxBytes+d-1)+"\x80", some(api.MaxBytes-1000+d)+"\x80"+strings.Repeat("\x00", 999))
	}
	found := 0
	for _, s := range l {
		x, e := Strip(s)
		if isPadding(s) {
			found++
			if e != api.OK || x != s[:strings.LastIndexByte(s, 128)] {
				t.Errorf("%x: %x %v", s, x, e)
			}
		} else if e != api.ErrForm || x != "" {
			t.Errorf("%x: %x %v", s, x, e)
		}
	}
	if found < 100 || found > len(l)-100 {
		t.Error("the strings are not of both kinds", found, len(l))
	}
}

// P1: no argument leads to a panic.
func TestStrangeArguments(t *testing.T) {
	strange := []int{math.MinInt, math.MinInt + 1, -1 << 30, -3, -1, 0, 1, 2, 3, 4, 7, 251, 256, 257, 1 << 16, 65537, 1 << 24, api.Prime, 1 << 30, 1 << 57, 1 << 60, 1 << 61, 1 << 62, math.MaxInt - 1, math.MaxInt}
	for _, p := range strange {
		Width(p)
		Pack(p, "abc")
		Pad("abc", p)
		for _, n := range strange {
			Count(p, n)
			for _, l := range [][]int{nil, {}, {0}, {n}, {n, n}, make([]int, 24), {0, 0, 0, 0, 0, 0, 0, n}} {
				Unpack(p, l, n)
				Unpack(p, l, 1)
			}
		}
	}
}

// Rule 1: the elements are left alone, and a result is memory of its own; nil is the empty list.
func TestMemory(t *testing.T) {
	for _, f := range fields {
		s := some(5)
		store := append(elements(f.width, s), 77, 78)
		before := slices.Clone(store)
		Unpack(f.p, store[:len(store)-2], len(s))
		if !slices.Equal(store, before) {
			t.Error(f.p, store)
		}
		first, _ := Pack(f.p, s)
		second, _ := Pack(f.p, s)
		first[0] = 99
		if second[0] == 99 {
			t.Error(f.p, "two results share memory")
		}
		if x, e := Unpack(f.p, []int{}, 0); e != api.OK || x != "" {
			t.Error(f.p, x, e)
		}
	}
}
