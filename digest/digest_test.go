package digest

import (
	"crypto/sha256"
	"encoding"
	"encoding/binary"
	"encoding/hex"
	"math"
	"math/big"
	"slices"
	"strings"
	"testing"

	"reportescrow/api"
)

// primes are permitted ones, among them the least and the greatest.
var primes = []int{2, 3, 5, 7, 257, 65537, api.Prime, 1073741789}

// texts have the lengths around those where the padding begins another block, and bytes of all kinds.
func texts() []string {
	var l []string
	for _, n := range []int{0, 1, 2, 3, 4, 31, 32, 54, 55, 56, 57, 63, 64, 65, 118, 119, 120, 127, 128, 129, 1000} {
		l = append(l, mixed(n))
	}
	return append(l, "abc", "Dr. Robert", "\x00", "\x80", "\xff\xfe", "é", "\x00\x00\x00\x01")
}

// mixed is a string of so many bytes without an order.
func mixed(n int) string {
	l := make([]byte, n)
	for i := range l {
		l[i] = byte(uint64(n+i+1) * 0x9E3779B97F4A7C15 >> 56)
	}
	return string(l)
}

// known is SHA-256 as the library of Go has it.
func known(s string) string {
	sum := sha256.Sum256([]byte(s))
	return string(sum[:])
}

// long is a string after its length, by the library of Go.
func long(s string) string {
	return string(binary.BigEndian.AppendUint32(nil, uint32(len(s)))) + s
}

// beginning is the number of the first seven bytes of a string.
func beginning(s string) *big.Int { return new(big.Int).SetBytes([]byte(s[:7])) }

// modulo is the rest of a number.
func modulo(n *big.Int, p int) int {
	return int(new(big.Int).Mod(n, big.NewInt(int64(p))).Int64())
}

// P3.1: the published test vectors.
func TestSumOfPublishedVectors(t *testing.T) {
	for _, c := range []struct{ text, want string }{
		{"", "e3b0c44298fc1c149afbf4c8996fb92427ae41e4649b934ca495991b7852b855"},
		{"abc", "ba7816bf8f01cfea414140de5dae2223b00361a396177a9cb410ff61f20015ad"},
		{"abcdbcdecdefdefgefghfghighijhijkijkljklmklmnlmnomnopnopq", "248d6a61d20638b8e5c026930c3e6039a33ce45964ff2167f6ecedd419db06c1"},
		{"abcdefghbcdefghicdefghijdefghijkefghijklfghijklmghijklmnhijklmnoijklmnopjklmnopqklmnopqrlmnopqrsmnopqrstnopqrstu", "cf5b16a778af8380036ce59e7b0492370b249b11e8f07a51afac45037afee9d1"},
		{strings.Repeat("a", 1000000), "cdc76e5c9914fb9281a1c7e284d73e67f1809a48a497200e046d39ccc7112cd0"},
	} {
		if got := hex.EncodeToString([]byte(Sum(c.text))); got != c.want {
			t.Errorf("Sum of %d bytes = %s, want %s", len(c.text), got, c.want)
		}
	}
}

// P3.1: Sum, of all lengths around those of the first blocks.
func TestSumOfAllLengths(t *testing.T) {
	for n := range 400 {
		s := mixed(n)
		if got := Sum(s); got != known(s) || len(got) != 32 {
			t.Errorf("Sum of %d bytes = %x, want %x", n, got, known(s))
		}
	}
	for n := range 130 {
		for _, s := range []string{strings.Repeat("\x00", n), strings.Repeat("\xff", n), strings.Repeat("\x80", n)} {
			if Sum(s) != known(s) {
				t.Errorf("Sum of %x = %x, want %x", s, Sum(s), known(s))
			}
		}
	}
	if s := mixed(1<<20 + 7); Sum(s) != known(s) {
		t.Error("Sum of a long string")
	}
}

// P3.1: the length in bits has 8 bytes. The library goes on from a state where so many bytes seem to have come.
func TestSumOfGreatLengths(t *testing.T) {
	for _, length := range []int{1 << 29, 1<<31 + 64, 1<<37 + 1<<20, 1 << 45, 1 << 53, 1<<60 + 1<<51 + 1<<44} {
		h := sha256.New()
		kept, e := h.(encoding.BinaryMarshaler).MarshalBinary()
		if e != nil {
			t.Fatal(e)
		}
		binary.BigEndian.PutUint64(kept[len(kept)-8:], uint64(length))
		if e := h.(encoding.BinaryUnmarshaler).UnmarshalBinary(kept); e != nil {
			t.Fatal(e)
		}
		h.Write([]byte("abc"))
		r := begin()
		r.length = length
		r.write("abc")
		if got, want := r.sum(), string(h.Sum(nil)); got != want {
			t.Errorf("sum after %d bytes = %x, want %x", length, got, want)
		}
	}
}

// P3.1: a sum may be taken on the way, as what comes in parts is what comes at once.
func TestSumInParts(t *testing.T) {
	s := mixed(300)
	for cut := range len(s) {
		r := begin()
		r.write(s[:cut])
		if r.sum() != known(s[:cut]) || r.sum() != known(s[:cut]) {
			t.Fatalf("the sum on the way, after %d bytes", cut)
		}
		r.write(s[cut:])
		if r.sum() != known(s) {
			t.Fatalf("the sum in parts, cut at %d", cut)
		}
	}
}

// P3.1: Hex, of each byte and of strings.
func TestHex(t *testing.T) {
	all := make([]byte, 256)
	for i := range all {
		all[i] = byte(i)
		if got, want := Hex(string(all[i:i+1])), hex.EncodeToString(all[i:i+1]); got != want {
			t.Errorf("Hex(%d) = %q, want %q", i, got, want)
		}
	}
	for _, s := range append(texts(), string(all)) {
		if got, want := Hex(s), hex.EncodeToString([]byte(s)); got != want {
			t.Errorf("Hex(%q) = %q, want %q", s, got, want)
		}
	}
	if got := Hex("\x00\x0f\xf0\xab\xcd\xef"); got != "000ff0abcdef" {
		t.Errorf("Hex = %q", got)
	}
}

// P3.2: Pair.
func TestPair(t *testing.T) {
	if got, want := Pair("ab", "c"), known("\x01\x00\x00\x00\x02ab\x00\x00\x00\x01c"); got != want {
		t.Errorf("Pair = %x, want %x", got, want)
	}
	if got, want := Pair("", ""), known("\x01\x00\x00\x00\x00\x00\x00\x00\x00"); got != want {
		t.Errorf("Pair of empty strings = %x, want %x", got, want)
	}
	for _, a := range texts() {
		for _, b := range texts() {
			if got, want := Pair(a, b), known("\x01"+long(a)+long(b)); got != want {
				t.Errorf("Pair(%q, %q) = %x, want %x", a, b, got, want)
			}
		}
	}
}

// P3.2: List.
func TestList(t *testing.T) {
	for _, c := range []struct {
		list []string
		want string
	}{
		{nil, "\x02\x00\x00\x00\x00"},
		{[]string{}, "\x02\x00\x00\x00\x00"},
		{[]string{""}, "\x02\x00\x00\x00\x01\x00\x00\x00\x00"},
		{[]string{"ab", ""}, "\x02\x00\x00\x00\x02\x00\x00\x00\x02ab\x00\x00\x00\x00"},
	} {
		if got := List(c.list); got != known(c.want) {
			t.Errorf("List(%q) = %x, want %x", c.list, got, known(c.want))
		}
	}
	all := texts()
	for from := range all {
		whole := ""
		for to := from; to < len(all); to++ {
			whole += long(all[to])
			count := string(binary.BigEndian.AppendUint32(nil, uint32(to-from+1)))
			if got, want := List(all[from:to+1]), known("\x02"+count+whole); got != want {
				t.Errorf("List of %d to %d = %x, want %x", from, to, got, want)
			}
		}
	}
}

// P3.2: numbers and lengths that need all of the 4 bytes, or the two after the first 256.
func TestGreatLengths(t *testing.T) {
	for _, n := range []int{255, 256, 257, 65535, 65536, 1 << 24, 1<<24 + 1<<16 + 1<<8 + 1} {
		s := strings.Repeat("x", n)
		if Pair(s, "b") != known("\x01"+long(s)+long("b")) || Pair("b", s) != known("\x01"+long("b")+long(s)) {
			t.Errorf("Pair with %d bytes", n)
		}
	}
	for _, n := range []int{255, 256, 257, 65535, 65536} {
		l := make([]string, n)
		count := string(binary.BigEndian.AppendUint32(nil, uint32(n)))
		if List(l) != known("\x02"+count+strings.Repeat(long(""), n)) {
			t.Errorf("List of %d strings", n)
		}
	}
}

// P3.2: lengths are taken modulo 2^32. No string here is that long, so that the bytes themselves are looked at.
func TestLengthsModulo(t *testing.T) {
	for _, n := range []int{0, 1, 255, 1 << 31, 1<<32 - 1, 1 << 32, 1<<32 + 7, math.MaxInt} {
		if got, want := highestFirst(uint64(n), 4), string(binary.BigEndian.AppendUint32(nil, uint32(n))); got != want {
			t.Errorf("4 bytes of %d = %x, want %x", n, got, want)
		}
	}
}

// Consequences of P3.2: different pairs and lists have different sums, also where their texts, one after the other, are the same.
func TestDifferentPairsAndLists(t *testing.T) {
	var parts [][]string
	const text = "ab\x00\x00\x00\x01c"
	for i := range len(text) + 1 {
		parts = append(parts, []string{text[:i], text[i:]})
		for j := i; j <= len(text); j++ {
			parts = append(parts, []string{text[:i], text[i:j], text[j:]})
		}
	}
	parts = append(parts, nil, []string{""}, []string{text}, []string{text, "", "", ""})
	seen := map[string]bool{Sum(""): true, Sum(text): true}
	count := len(seen)
	for _, l := range parts {
		seen[List(l)] = true
		count++
		if len(l) == 2 {
			seen[Pair(l[0], l[1])] = true
			count++
		}
	}
	if len(seen) != count {
		t.Errorf("%d different sums of %d", len(seen), count)
	}
}

// P3.3: Element.
func TestElement(t *testing.T) {
	for _, p := range primes {
		for _, s := range texts() {
			want := modulo(beginning(known(s)), p-1) + 1
			if got := Element(p, s); got != want || got < 1 || got >= p {
				t.Errorf("Element(%d, %q) = %d, want %d", p, s, got, want)
			}
		}
	}
	seen := map[int]bool{}
	for i := range 200 {
		seen[Element(7, mixed(i))] = true
	}
	if len(seen) != 6 {
		t.Errorf("%d different elements of the field of 7 that are not 0", len(seen))
	}
}

// P3.3: Stream.
func TestStream(t *testing.T) {
	for _, p := range primes {
		for _, seed := range texts() {
			for _, n := range []int{0, 1, 2, 20} {
				checkStream(t, p, seed, n)
			}
		}
		checkStream(t, p, "seed", 300)
		checkStream(t, p, mixed(57), api.MaxElements-1)
		checkStream(t, p, mixed(58), api.MaxElements)
	}
}

func checkStream(t *testing.T, p int, seed string, n int) {
	t.Helper()
	got := Stream(p, seed, n)
	if len(got) != n {
		t.Errorf("Stream(%d, %q, %d) has the length %d", p, seed, n, len(got))
	}
	for i, x := range got {
		four := string(binary.BigEndian.AppendUint32(nil, uint32(i)))
		if want := modulo(beginning(known("\x01"+long(seed)+long(four))), p); x != want {
			t.Errorf("Stream(%d, %q, %d)[%d] = %d, want %d", p, seed, n, i, x, want)
		}
	}
}

// P3.3: a longer stream begins with the shorter one, and all elements occur.
func TestStreamGoesOn(t *testing.T) {
	whole := Stream(7, "abc", 500)
	for n := range whole {
		if !slices.Equal(Stream(7, "abc", n), whole[:n]) {
			t.Fatalf("the stream of %d", n)
		}
	}
	for x := range 7 {
		if !slices.Contains(whole, x) {
			t.Errorf("%d does not occur", x)
		}
	}
	if slices.Equal(whole, Stream(7, "abd", 500)) {
		t.Error("two seeds with the same stream")
	}
}

// P1: numbers for which nothing is specified.
func TestStrangeNumbers(t *testing.T) {
	strange := []int{math.MinInt, math.MinInt + 1, math.MinInt + 2, -api.Prime, -2, -1, 0, 1, 2, 4, 100, api.MaxElements, api.MaxElements + 1, 1 << 30, 1 << 31, 1 << 32, 1 << 62, math.MaxInt - 1, math.MaxInt}
	for _, p := range strange {
		for _, s := range []string{"", "abc", mixed(500)} {
			Element(p, s)
			for _, n := range strange {
				if got := Stream(p, s, n); len(got) > api.MaxElements {
					t.Errorf("Stream(%d, %q, %d) has the length %d", p, s, n, len(got))
				}
			}
		}
	}
}

// Rule 1: a list stays as it is, also beyond its length, and a result is its own.
func TestArgumentsAndResults(t *testing.T) {
	all := []string{"a", "b", "c", "d"}
	List(all[1:2])
	if !slices.Equal(all, []string{"a", "b", "c", "d"}) {
		t.Error("List changes its argument:", all)
	}
	first := Stream(api.Prime, "abc", 10)
	before := slices.Clone(first)
	second := Stream(api.Prime, "abc", 10)
	for i := range second {
		second[i] = -1
	}
	if !slices.Equal(first, before) || !slices.Equal(Stream(api.Prime, "abc", 10), before) {
		t.Error("two streams share their memory")
	}
}
