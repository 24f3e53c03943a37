package bitstring_test

import (
	"bytes"
	"encoding/hex"
	"fmt"
	"math"
	"math/rand"
	"slices"
	"strings"
	"testing"

	"cretula/api"
	"cretula/bitstring"
)

// octets returns the octets that a text has in hexadecimal digits, with spaces between them.
func octets(text string) []byte {
	b, err := hex.DecodeString(strings.ReplaceAll(text, " ", ""))
	if err != nil {
		panic(err)
	}
	return b
}

// join returns all parts one after the other.
func join(parts ...[]byte) []byte { return slices.Concat(parts...) }

// grown returns all sequences of at most length elements out of an alphabet.
func grown[E any](length int, alphabet []E) [][]E {
	all := [][]E{nil}
	for from := 0; length > 0; length-- {
		to := len(all)
		for ; from < to; from++ {
			for _, e := range alphabet {
				all = append(all, append(slices.Clone(all[from]), e))
			}
		}
	}
	return all
}

// same reports whether bit strings are equal, where an empty slice and nil are.
func same(a, b api.Bits) bool { return bytes.Equal(a.Bytes, b.Bytes) && a.Unused == b.Unused }

// digitsOf returns the bits of bytes as binary digits.
func digitsOf(b []byte) string {
	var text strings.Builder
	for _, x := range b {
		fmt.Fprintf(&text, "%08b", x)
	}
	return text.String()
}

// textOf returns the bits of a bit string as binary digits, and whether it is valid, by the definition.
func textOf(b api.Bits) (string, bool) {
	if b.Unused < 0 || b.Unused > 7 || len(b.Bytes) == 0 && b.Unused != 0 {
		return "", false
	}
	digits := digitsOf(b.Bytes)
	count := len(digits) - b.Unused
	if strings.Contains(digits[count:], "1") {
		return "", false
	}
	return digits[:count], true
}

// bitsOf returns the bit string with bits that are given as binary digits.
func bitsOf(text string) api.Bits {
	unused := (8 - len(text)%8) % 8
	text += strings.Repeat("0", unused)
	b := api.Bits{Unused: unused}
	for ; text != ""; text = text[8:] {
		var x byte
		fmt.Sscanf(text[:8], "%b", &x)
		b.Bytes = append(b.Bytes, x)
	}
	return b
}

// contentsOf returns the contents octets of the bit string with bits that are given as binary digits.
func contentsOf(text string) []byte {
	b := bitsOf(text)
	return join([]byte{byte(b.Unused)}, b.Bytes)
}

// namedOf returns the bits of the shortest bit string with exactly these members, as binary digits.
func namedOf(members []int) string {
	if len(members) == 0 {
		return ""
	}
	text := bytes.Repeat([]byte{'0'}, slices.Max(members)+1)
	for _, i := range members {
		text[i] = '1'
	}
	return string(text)
}

// membersOf returns the numbers of the bits of a set, by dividing it.
func membersOf(set int) []int {
	var members []int
	for i := 0; set > 0; i++ {
		if set%2 == 1 {
			members = append(members, i)
		}
		set /= 2
	}
	return members
}

func expectLen(t *testing.T, b api.Bits, want int) {
	t.Helper()
	if got := bitstring.Len(b); got != want {
		t.Errorf("Len(%x, %d) = %d, want %d", b.Bytes, b.Unused, got, want)
	}
}

func expectAt(t *testing.T, b api.Bits, i int, want bool) {
	t.Helper()
	if got := bitstring.At(b, i); got != want {
		t.Errorf("At(%x, %d; %d) = %v", b.Bytes, b.Unused, i, got)
	}
}

func expectEncode(t *testing.T, b api.Bits, want []byte, wantCode api.Code) {
	t.Helper()
	if c, code := bitstring.Encode(b); !bytes.Equal(c, want) || code != wantCode {
		t.Errorf("Encode(%x, %d) = %x, %v, want %x, %v", b.Bytes, b.Unused, c, code, want, wantCode)
	}
}

func expectDecode(t *testing.T, c []byte, want api.Bits, wantCode api.Code) {
	t.Helper()
	if b, code := bitstring.Decode(c); !same(b, want) || code != wantCode {
		t.Errorf("Decode(%x) = %v, %v, want %v, %v", c, b, code, want, wantCode)
	}
}

func expectEncodeNamed(t *testing.T, set, most int, want []byte, wantCode api.Code) {
	t.Helper()
	if c, code := bitstring.EncodeNamed(set, most); !bytes.Equal(c, want) || code != wantCode {
		t.Errorf("EncodeNamed(%#x, %d) = %x, %v, want %x, %v", set, most, c, code, want, wantCode)
	}
}

func expectDecodeNamed(t *testing.T, c []byte, most int, want int, wantCode api.Code) {
	t.Helper()
	if set, code := bitstring.DecodeNamed(c, most); set != want || code != wantCode {
		t.Errorf("DecodeNamed(%x, %d) = %#x, %v, want %#x, %v", c, most, set, code, want, wantCode)
	}
}

func expectMembers(t *testing.T, set int, want []int) {
	t.Helper()
	if got := bitstring.Members(set); !slices.Equal(got, want) {
		t.Errorf("Members(%#x) = %v, want %v", set, got, want)
	}
}

// expectBits checks what all functions say of a valid bit string with bits that are given as binary digits.
func expectBits(t *testing.T, b api.Bits, text string) {
	t.Helper()
	if !bitstring.Valid(b) {
		t.Errorf("Valid(%x, %d) = false", b.Bytes, b.Unused)
	}
	c := join([]byte{byte(b.Unused)}, b.Bytes)
	expectEncode(t, b, c, api.OK)
	expectDecode(t, c, b, api.OK)
	expectLen(t, b, len(text))
	for i, digit := range text {
		expectAt(t, b, i, digit == '1')
	}
	for _, i := range []int{-1, -2, -7, -8, -9, -64, math.MinInt32, math.MinInt, math.MinInt + 1} {
		expectAt(t, b, i, false)
	}
	for i := range 20 {
		expectAt(t, b, len(text)+i, false)
	}
	for _, i := range []int{1 << 20, math.MaxInt32, 1 << 32, 1 << 35, math.MaxInt - 1, math.MaxInt} {
		expectAt(t, b, i, false)
	}
}

// expectNoBits checks what all functions say of a bit string that is not valid.
func expectNoBits(t *testing.T, b api.Bits) {
	t.Helper()
	if bitstring.Valid(b) {
		t.Errorf("Valid(%x, %d) = true", b.Bytes, b.Unused)
	}
	expectEncode(t, b, nil, api.ErrInvalid)
	expectLen(t, b, 0)
	for _, i := range []int{math.MinInt, -9, -8, -1, 0, 1, 2, 6, 7, 8, 9, 15, 16, 17, 100, math.MaxInt} {
		expectAt(t, b, i, false)
	}
}

// checkBits compares all functions with the definitions, for any bit string.
func checkBits(t *testing.T, b api.Bits) bool {
	t.Helper()
	text, ok := textOf(b)
	if ok {
		expectBits(t, b, text)
	} else {
		expectNoBits(t, b)
	}
	return ok
}

// checkOctets compares Decode and DecodeNamed with the definitions, for any octets.
func checkOctets(t *testing.T, c []byte) {
	t.Helper()
	text, ok := "", false
	b := api.Bits{}
	if len(c) > 0 {
		b = api.Bits{Bytes: c[1:], Unused: int(c[0])}
		text, ok = textOf(b)
	}
	if ok {
		expectDecode(t, c, b, api.OK)
		expectEncode(t, b, c, api.OK)
	} else {
		expectDecode(t, c, api.Bits{}, api.ErrValue)
	}
	for most := range 34 {
		checkNamed(t, c, most, text, ok)
	}
}

// checkNamed compares DecodeNamed with the definition, for octets that are, if ok is true, those of the bits of text.
func checkNamed(t *testing.T, c []byte, most int, text string, ok bool) {
	t.Helper()
	switch {
	case most < 1 || most > 32:
		expectDecodeNamed(t, c, most, 0, api.ErrRange)
	case !ok || len(text) > most || strings.HasSuffix(text, "0"):
		expectDecodeNamed(t, c, most, 0, api.ErrValue)
	default:
		set := 0
		for i, digit := range text {
			if digit == '1' {
				set += 1 << i
			}
		}
		expectDecodeNamed(t, c, most, set, api.OK)
		expectEncodeNamed(t, set, most, c, api.OK)
	}
}

// checkSet compares all functions with the definitions, for any set and any number of bits.
func checkSet(t *testing.T, set, most int) {
	t.Helper()
	members := membersOf(set)
	expectMembers(t, set, members)
	if most < 1 || most > 32 || set < 0 || len(members) > 0 && slices.Max(members) >= most {
		expectEncodeNamed(t, set, most, nil, api.ErrRange)
		return
	}
	text := namedOf(members)
	c := contentsOf(text)
	expectEncodeNamed(t, set, most, c, api.OK)
	expectDecodeNamed(t, c, most, set, api.OK)
	b, code := bitstring.Decode(c)
	if code != api.OK {
		t.Fatalf("Decode(%x) = %v", c, code)
	}
	expectBits(t, b, text)
	var found []int
	for i := range bitstring.Len(b) {
		if bitstring.At(b, i) {
			found = append(found, i)
		}
	}
	if !slices.Equal(found, members) {
		t.Errorf("the bits %v of %x are set, but %v are members of %#x", found, c, members, set)
	}
}

// P6.1, the examples of the chapter.
func TestExamples(t *testing.T) {
	expectBits(t, api.Bits{Bytes: octets("a0"), Unused: 5}, "101")
	expectEncode(t, api.Bits{Bytes: octets("a0"), Unused: 5}, octets("05 a0"), api.OK)
	expectEncodeNamed(t, 5, 9, octets("05 a0"), api.OK)
	expectEncodeNamed(t, 0, 9, octets("00"), api.OK)
	expectEncodeNamed(t, 1<<8, 9, octets("07 00 80"), api.OK)
	expectBits(t, api.Bits{Bytes: octets("a0"), Unused: 4}, "1010")
	expectDecodeNamed(t, octets("04 a0"), 9, 0, api.ErrValue)
	for _, c := range []string{"05 a1", "06 a0"} {
		expectDecode(t, octets(c), api.Bits{}, api.ErrValue)
		expectDecodeNamed(t, octets(c), 9, 0, api.ErrValue)
	}
}

// P6.1: bit strings with no bits, and with 1 and more ones.
func TestBits(t *testing.T) {
	for _, x := range []struct {
		b    string
		text string
	}{
		{"00", ""},
		{"07 00", "0"},
		{"07 80", "1"},
		{"06 00", "00"},
		{"06 40", "01"},
		{"06 80", "10"},
		{"05 20", "001"},
		{"04 f0", "1111"},
		{"03 08", "00001"},
		{"02 fc", "111111"},
		{"01 00", "0000000"},
		{"01 02", "0000001"},
		{"01 fe", "1111111"},
		{"00 00", "00000000"},
		{"00 01", "00000001"},
		{"00 80", "10000000"},
		{"00 ff", "11111111"},
		{"07 00 00", "000000000"},
		{"07 00 80", "000000001"},
		{"07 ff 80", "111111111"},
		{"06 81 40", "1000000101"},
		{"01 01 02", "000000010000001"},
		{"00 01 01", "0000000100000001"},
		{"04 ff 0f f0", "11111111000011111111"},
		{"00 12 34 56 78 9a bc de f0", "0001001000110100010101100111100010011010101111001101111011110000"},
	} {
		c := octets(x.b)
		b := api.Bits{Bytes: c[1:], Unused: int(c[0])}
		expectBits(t, b, x.text)
		if other := bitsOf(x.text); !same(other, b) {
			t.Errorf("the bits %s are %v, want %v", x.text, other, b)
		}
	}
	expectBits(t, api.Bits{}, "")
	expectBits(t, api.Bits{Bytes: []byte{}}, "")
	expectBits(t, api.Bits{Bytes: make([]byte, 0, 5)}, "")
}

// P6.1: numbers of unused bits below 0, above 7, and without Bytes.
func TestUnusedOutside(t *testing.T) {
	for _, unused := range []int{math.MinInt, math.MinInt32, -1 << 32, -256, -255, -249, -64, -9, -8, -7, -1, 8, 9, 15, 16, 63, 64, 65, 127, 128, 255, 256, 257, 263, 264, 1<<32 + 1, 1 << 33, math.MaxInt32, math.MaxInt} {
		for _, c := range [][]byte{nil, {}, {0}, {0x80}, {0, 0}, {1}, {255}, {0x80, 0}, make([]byte, 9), make([]byte, 40)} {
			expectNoBits(t, api.Bits{Bytes: c, Unused: unused})
		}
	}
	for unused := 1; unused < 8; unused++ {
		expectNoBits(t, api.Bits{Unused: unused})
		expectNoBits(t, api.Bits{Bytes: []byte{}, Unused: unused})
		expectNoBits(t, api.Bits{Bytes: make([]byte, 0, 5), Unused: unused})
	}
}

// P6.1: all numbers of unused bits from -1 to 9 with all bytes at the end: the unused bits are to be 0.
func TestUnusedBits(t *testing.T) {
	count := 0
	for unused := -1; unused <= 9; unused++ {
		for x := range 256 {
			last := byte(x)
			for _, c := range [][]byte{{last}, {0, last}, {0xff, last}, {last, last, last}} {
				if checkBits(t, api.Bits{Bytes: c, Unused: unused}) {
					count++
				}
			}
			if unused > 0 && unused < 8 {
				expectBits(t, api.Bits{Bytes: []byte{last, 0}, Unused: unused}, digitsOf([]byte{last, 0})[:16-unused])
			}
		}
	}
	// With n unused bits there are 2^(8-n) bytes at the end.
	if want := 4 * (256 + 128 + 64 + 32 + 16 + 8 + 4 + 2); count != want {
		t.Errorf("%d bit strings are valid, want %d", count, want)
	}
}

// P6.1, Decode: no contents octets, a first octet above 7, a first octet that is not 0 and nothing behind it, unused bits that are not 0.
func TestDecodeInvalid(t *testing.T) {
	expectDecode(t, nil, api.Bits{}, api.ErrValue)
	expectDecode(t, []byte{}, api.Bits{}, api.ErrValue)
	for first := 1; first < 256; first++ {
		expectDecode(t, []byte{byte(first)}, api.Bits{}, api.ErrValue)
		if first > 7 {
			expectDecode(t, []byte{byte(first), 0}, api.Bits{}, api.ErrValue)
			expectDecode(t, join([]byte{byte(first)}, make([]byte, 50)), api.Bits{}, api.ErrValue)
		} else {
			expectDecode(t, []byte{byte(first), 1}, api.Bits{}, api.ErrValue)
			expectDecode(t, []byte{byte(first), 0, 1 << (first - 1)}, api.Bits{}, api.ErrValue)
			expectDecode(t, []byte{byte(first), 1 << (first - 1), 0}, api.Bits{Bytes: []byte{1 << (first - 1), 0}, Unused: first}, api.OK)
			expectDecode(t, []byte{byte(first), 0, 1 << first}, api.Bits{Bytes: []byte{0, 1 << first}, Unused: first}, api.OK)
		}
	}
}

// P6.1 and P6.2, Decode and DecodeNamed: all octets and all pairs of them, and longer ones out of a few.
func TestAllShortOctets(t *testing.T) {
	checkOctets(t, nil)
	checkOctets(t, []byte{})
	for first := range 256 {
		checkOctets(t, []byte{byte(first)})
		for last := range 256 {
			checkOctets(t, []byte{byte(first), byte(last)})
			if first < 8 {
				checkOctets(t, []byte{byte(first), 0x81, byte(last)})
			}
		}
	}
	for _, c := range grown(5, []byte{0, 1, 4, 7, 8, 0x80, 0xff}) {
		checkOctets(t, c)
	}
}

// P6.2: no two contents octets are decoded as the same bit string, or as the same set.
func TestDecodedOnce(t *testing.T) {
	strings, sets := map[string][]byte{}, map[int][]byte{}
	for _, c := range grown(4, []byte{0, 1, 2, 3, 4, 5, 6, 7, 8, 0x80, 0xc0}) {
		if b, code := bitstring.Decode(c); code == api.OK {
			key := fmt.Sprint(b.Bytes, b.Unused)
			if other, ok := strings[key]; ok {
				t.Errorf("%x and %x are both decoded as %s", other, c, key)
			}
			strings[key] = c
		}
		if set, code := bitstring.DecodeNamed(c, 32); code == api.OK {
			if other, ok := sets[set]; ok {
				t.Errorf("%x and %x are both decoded as %#x", other, c, set)
			}
			sets[set] = c
		}
	}
	if len(strings) < 1000 || len(sets) < 300 {
		t.Errorf("only %d bit strings and %d sets are decoded", len(strings), len(sets))
	}
}

// P6.1 and P6.2: bit strings of all lengths up to 80 bits, and long ones.
func TestRandomBits(t *testing.T) {
	source := rand.New(rand.NewSource(6))
	lengths := []int{1000, 1001, 1023, 1024, 1025, 8 * 1000, 8*1000 + 3}
	for range 20 {
		for length := range 81 {
			lengths = append(lengths, length)
		}
	}
	for _, length := range lengths {
		text := make([]byte, length)
		for i := range text {
			text[i] = '0' + byte(source.Intn(2))
		}
		b := bitsOf(string(text))
		expectBits(t, b, string(text))
		expectEncode(t, b, contentsOf(string(text)), api.OK)
		for unused := 0; unused <= 8; unused++ {
			checkBits(t, api.Bits{Bytes: b.Bytes, Unused: unused})
		}
	}
}

// P6.1: a bit string of many bytes.
func TestLong(t *testing.T) {
	long := bytes.Repeat([]byte{0x5a}, 1<<20)
	b := api.Bits{Bytes: long, Unused: 1}
	expectEncode(t, b, join([]byte{1}, long), api.OK)
	expectDecode(t, join([]byte{1}, long), b, api.OK)
	expectLen(t, b, 8<<20-1)
	expectAt(t, b, 8<<20-2, true)
	expectAt(t, b, 8<<20-1, false)
	expectAt(t, b, 8<<20, false)
	expectDecodeNamed(t, join([]byte{1}, long), 32, 0, api.ErrValue)
	expectNoBits(t, api.Bits{Bytes: long, Unused: 2})
}

// P6.1, EncodeNamed and DecodeNamed: numbers of bits outside their limits, whatever the set and the octets.
func TestMostOutside(t *testing.T) {
	for _, most := range []int{math.MinInt, math.MinInt32, -33, -32, -1, 0, 33, 34, 63, 64, 65, 128, 256, 256 + 8, 1<<32 + 1, 1<<32 + 9, math.MaxInt32, math.MaxInt} {
		for _, set := range []int{0, 1, 5, -1, 1 << 31, 1 << 32, math.MaxInt, math.MinInt} {
			expectEncodeNamed(t, set, most, nil, api.ErrRange)
		}
		for _, c := range []string{"", "00", "07 80", "05 a0", "04 a0", "05 a1", "00 00 00 00 01", "07 00 00 00 00 80", "08 00", "01"} {
			expectDecodeNamed(t, octets(c), most, 0, api.ErrRange)
		}
	}
}

// P6.1 and P6.2: sets with the highest bit below most, and at most and above.
func TestHighestBit(t *testing.T) {
	for most := 1; most <= 32; most++ {
		for bit := range 63 {
			for _, set := range []int{1 << bit, 1<<bit | 1, 1<<bit - 1, 1<<bit | 1<<(bit/2), 1<<bit | (1<<bit - 1), 1<<bit | 1<<max(bit-1, 0)} {
				checkSet(t, set, most)
			}
			c := contentsOf(strings.Repeat("0", bit) + "1")
			if bit < most {
				expectEncodeNamed(t, 1<<bit, most, c, api.OK)
				expectDecodeNamed(t, c, most, 1<<bit, api.OK)
			} else {
				expectEncodeNamed(t, 1<<bit, most, nil, api.ErrRange)
				expectDecodeNamed(t, c, most, 0, api.ErrValue)
			}
		}
		expectEncodeNamed(t, 0, most, []byte{0}, api.OK)
		expectDecodeNamed(t, []byte{0}, most, 0, api.OK)
	}
	expectEncodeNamed(t, 1<<31, 32, octets("00 00 00 00 01"), api.OK)
	expectEncodeNamed(t, 1<<32-1, 32, octets("00 ff ff ff ff"), api.OK)
	expectEncodeNamed(t, 1<<30, 31, octets("01 00 00 00 02"), api.OK)
	expectEncodeNamed(t, 1, 1, octets("07 80"), api.OK)
	expectEncodeNamed(t, 2, 1, nil, api.ErrRange)
	expectEncodeNamed(t, 1<<32, 32, nil, api.ErrRange)
	expectEncodeNamed(t, 1<<31, 31, nil, api.ErrRange)
}

// P6.1 and P6.2: all small sets, for all numbers of bits.
func TestAllSmallSets(t *testing.T) {
	for set := -20; set < 1<<11; set++ {
		for most := -1; most <= 34; most++ {
			checkSet(t, set, most)
		}
	}
}

// P6.1 and P6.2: random sets of all sizes.
func TestRandomSets(t *testing.T) {
	source := rand.New(rand.NewSource(7))
	for range 20000 {
		set := int(source.Uint64() >> source.Intn(64))
		most := 1 + source.Intn(32)
		checkSet(t, set, most)
		checkSet(t, set, 32)
		checkSet(t, set&(1<<most-1), most)
	}
}

// P6.1: negative sets have no members and no octets.
func TestNegativeSets(t *testing.T) {
	for _, set := range []int{-1, -2, -3, -4, -128, -256, -1 << 31, -1<<31 + 1, -1 << 32, -1<<32 + 1, -1 << 62, math.MinInt, math.MinInt + 1, math.MinInt + 5} {
		expectMembers(t, set, nil)
		for _, most := range []int{0, 1, 8, 9, 31, 32, 33} {
			expectEncodeNamed(t, set, most, nil, api.ErrRange)
		}
	}
}

// P6.1, Members: sets of all sizes, also of those that have no octets.
func TestMembers(t *testing.T) {
	for _, x := range []struct {
		set  int
		want []int
	}{
		{0, nil},
		{1, []int{0}},
		{2, []int{1}},
		{3, []int{0, 1}},
		{5, []int{0, 2}},
		{0b100101, []int{0, 2, 5}},
		{0x1ff, []int{0, 1, 2, 3, 4, 5, 6, 7, 8}},
		{1 << 8, []int{8}},
		{1<<31 | 1, []int{0, 31}},
		{1 << 32, []int{32}},
		{1<<62 | 1<<33 | 1<<7, []int{7, 33, 62}},
	} {
		expectMembers(t, x.set, x.want)
	}
	var all []int
	for i := range 63 {
		all = append(all, i)
	}
	expectMembers(t, math.MaxInt, all)
}

// P6.1, DecodeNamed: zeros at the end, a bit that is not below most, and octets of no bit string.
func TestDecodeNamed(t *testing.T) {
	for _, x := range []struct {
		c    string
		most int
		want int
		code api.Code
	}{
		{"00", 1, 0, api.OK},
		{"00", 32, 0, api.OK},
		{"07 80", 1, 1, api.OK},
		{"06 40", 2, 2, api.OK},
		{"06 c0", 2, 3, api.OK},
		{"05 a0", 3, 5, api.OK},
		{"05 a0", 32, 5, api.OK},
		{"00 01", 8, 128, api.OK},
		{"00 ff", 9, 255, api.OK},
		{"07 00 80", 9, 256, api.OK},
		{"07 ff 80", 9, 511, api.OK},
		{"01 00 00 00 02", 31, 1 << 30, api.OK},
		{"01 ff ff ff fe", 31, 1<<31 - 1, api.OK},
		{"00 00 00 00 01", 32, 1 << 31, api.OK},
		{"00 ff ff ff ff", 32, 1<<32 - 1, api.OK},
		{"00 80 00 00 01", 32, 1<<31 | 1, api.OK},
		{"", 1, 0, api.ErrValue},
		{"", 32, 0, api.ErrValue},
		{"07 00", 9, 0, api.ErrValue},
		{"06 80", 9, 0, api.ErrValue},
		{"06 00", 9, 0, api.ErrValue},
		{"04 a0", 9, 0, api.ErrValue},
		{"00 00", 9, 0, api.ErrValue},
		{"00 80", 9, 0, api.ErrValue},
		{"00 fe", 9, 0, api.ErrValue},
		{"07 80 00", 9, 0, api.ErrValue},
		{"00 80 00", 32, 0, api.ErrValue},
		{"00 00 00 00 00", 32, 0, api.ErrValue},
		{"00 80 00 00 00", 32, 0, api.ErrValue},
		{"06 40", 1, 0, api.ErrValue},
		{"06 c0", 1, 0, api.ErrValue},
		{"05 a0", 2, 0, api.ErrValue},
		{"00 01", 7, 0, api.ErrValue},
		{"07 00 80", 8, 0, api.ErrValue},
		{"06 00 40", 9, 0, api.ErrValue},
		{"07 80 80", 8, 0, api.ErrValue},
		{"07 80 00", 8, 0, api.ErrValue},
		{"00 00 00 00 01", 31, 0, api.ErrValue},
		{"07 00 00 00 00 80", 32, 0, api.ErrValue},
		{"07 80 00 00 00 80", 32, 0, api.ErrValue},
		{"07 00 00 00 00 00 00 00 00 80", 32, 0, api.ErrValue},
		{"00 00 00 00 00 00 00 00 01", 32, 0, api.ErrValue},
		{"05 a1", 9, 0, api.ErrValue},
		{"06 a0", 9, 0, api.ErrValue},
		{"01", 9, 0, api.ErrValue},
		{"07", 9, 0, api.ErrValue},
		{"08", 9, 0, api.ErrValue},
		{"08 80", 9, 0, api.ErrValue},
		{"08 80 80", 9, 0, api.ErrValue},
		{"08 80 00", 9, 0, api.ErrValue},
		{"0f 80 00", 9, 0, api.ErrValue},
		{"ff 80", 9, 0, api.ErrValue},
	} {
		expectDecodeNamed(t, octets(x.c), x.most, x.want, x.code)
		if x.code == api.OK {
			checkSet(t, x.want, x.most)
		}
	}
}

// scribble overwrites a slice and its unused capacity.
func scribble[E any](slice []E, with E) {
	all := slice[:cap(slice)]
	for i := range all {
		all[i] = with
	}
}

// P6.1 with rule 5: neither the arguments nor their unused capacity are modified, and later changes of them do not change a result.
func TestArgumentsStay(t *testing.T) {
	for _, c := range []string{"00", "05 a0", "00 01", "07 00 80", "00 12 34 56 78", "01 02", "04 a0", "05 a1", "01", "08 00", ""} {
		whole := octets(c)
		room := join([]byte{0x81, 0x82}, whole, []byte{1, 2, 3, 4, 5, 6, 7, 8, 9})
		want := bytes.Clone(room)
		part := room[2 : 2+len(whole)]
		decoded, code := bitstring.Decode(part)
		set, namedCode := bitstring.DecodeNamed(part, 32)
		var encoded []byte
		if code == api.OK {
			b := api.Bits{Bytes: part[1:], Unused: int(part[0])}
			encoded, _ = bitstring.Encode(b)
			for i := range bitstring.Len(b) {
				bitstring.At(b, i)
			}
			bitstring.Valid(b)
		}
		if !bytes.Equal(room, want) {
			t.Errorf("the octets around %s became %x", c, room)
		}
		scribble(room, 99)
		if code == api.OK && (!same(decoded, api.Bits{Bytes: whole[1:], Unused: int(whole[0])}) || !bytes.Equal(encoded, whole)) {
			t.Errorf("the results for %s became %v, %x", c, decoded, encoded)
		}
		expectDecode(t, whole, decoded, code)
		expectDecodeNamed(t, whole, 32, set, namedCode)
	}
}

// P6.1 with rules 5 and 7: later changes of results do not change the arguments, nor the results of other calls.
func TestResultsAreIndependent(t *testing.T) {
	for _, c := range []string{"00", "05 a0", "00 01", "07 00 80", "00 12 34 56 79", "00 ff ff ff ff"} {
		whole := octets(c)
		b, _ := bitstring.Decode(whole)
		set, _ := bitstring.DecodeNamed(whole, 32)
		kept, _ := bitstring.Encode(b)
		named, _ := bitstring.EncodeNamed(set, 32)
		members := bitstring.Members(set)
		wantMembers := slices.Clone(members)

		otherBits, _ := bitstring.Decode(whole)
		other, _ := bitstring.Encode(b)
		otherNamed, _ := bitstring.EncodeNamed(set, 32)
		otherMembers := bitstring.Members(set)
		for _, x := range [][]byte{otherBits.Bytes, other, otherNamed} {
			scribble(x, 99)
			_ = append(x[:0], 77, 77, 77, 77, 77, 77)
		}
		scribble(otherMembers, 99)
		if !bytes.Equal(whole, octets(c)) || !same(b, api.Bits{Bytes: octets(c)[1:], Unused: int(octets(c)[0])}) || !bytes.Equal(kept, octets(c)) || !bytes.Equal(named, octets(c)) || !slices.Equal(members, wantMembers) {
			t.Errorf("%s became %x, %v, %x, %x, %v", c, whole, b, kept, named, members)
		}
		checkSet(t, set, 32)
	}
}

// P6.1 with rule 8: the functions may be called concurrently.
func TestConcurrentCalls(t *testing.T) {
	for i := range 8 {
		t.Run(fmt.Sprint(i), func(t *testing.T) {
			t.Parallel()
			source := rand.New(rand.NewSource(int64(i)))
			for range 500 {
				checkSet(t, int(source.Uint32()), 32)
			}
		})
	}
}
