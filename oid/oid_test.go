package oid_test

import (
	"bytes"
	"encoding/hex"
	"fmt"
	"math/big"
	"math/rand"
	"regexp"
	"slices"
	"strings"
	"testing"

	"cretula/api"
	"cretula/oid"
)

// octets returns the octets that a text has in hexadecimal digits, with spaces between them.
func octets(text string) []byte {
	b, err := hex.DecodeString(strings.ReplaceAll(text, " ", ""))
	if err != nil {
		panic(err)
	}
	return b
}

// join returns all parts one after the other.
func join(parts ...[]byte) []byte { return slices.Concat(parts...) }

// grown returns all sequences of at most length elements out of an alphabet.
func grown[E any](length int, alphabet []E) [][]E {
	all := [][]E{nil}
	for from := 0; length > 0; length-- {
		to := len(all)
		for ; from < to; from++ {
			for _, e := range alphabet {
				all = append(all, append(slices.Clone(all[from]), e))
			}
		}
	}
	return all
}

var notation = regexp.MustCompile(`^(0|[1-9][0-9]*)([.](0|[1-9][0-9]*))+$`)

// permitted reports whether numbers are the arcs of an object identifier, by the definition.
func permitted(numbers []*big.Int) bool {
	if len(numbers) < 2 {
		return false
	}
	for _, n := range numbers {
		if n.Sign() < 0 || n.Cmp(big.NewInt(api.MaxArc)) > 0 {
			return false
		}
	}
	second := big.NewInt(39)
	if numbers[0].Cmp(big.NewInt(2)) == 0 {
		second = big.NewInt(api.MaxArc - 80)
	}
	return numbers[0].Cmp(big.NewInt(2)) <= 0 && numbers[1].Cmp(second) <= 0
}

// arcsOf returns the arcs of a string by the definition, and whether it is one of an object identifier.
func arcsOf(s string) ([]uint32, bool) {
	if !notation.MatchString(s) {
		return nil, false
	}
	var numbers []*big.Int
	var arcs []uint32
	for _, part := range strings.Split(s, ".") {
		n, _ := new(big.Int).SetString(part, 10)
		numbers = append(numbers, n)
		arcs = append(arcs, uint32(n.Uint64()))
	}
	if !permitted(numbers) {
		return nil, false
	}
	return arcs, true
}

// textOf returns the string of arcs by the definition, and whether they are those of an object identifier.
func textOf(arcs []uint32) (string, bool) {
	var numbers []*big.Int
	var parts []string
	for _, arc := range arcs {
		numbers = append(numbers, big.NewInt(int64(arc)))
		parts = append(parts, fmt.Sprint(arc))
	}
	if !permitted(numbers) {
		return "", false
	}
	return strings.Join(parts, "."), true
}

// subidentifier returns the octets of a number by the definition, from its binary digits.
func subidentifier(n *big.Int) []byte {
	binary := n.Text(2)
	for len(binary)%7 != 0 {
		binary = "0" + binary
	}
	var c []byte
	for i := 0; i < len(binary); i += 7 {
		more := "1"
		if i+7 == len(binary) {
			more = "0"
		}
		octet, _ := new(big.Int).SetString(more+binary[i:i+7], 2)
		c = append(c, byte(octet.Uint64()))
	}
	return c
}

// contentsOf returns the contents octets of arcs by the definition.
func contentsOf(arcs []uint32) []byte {
	c := subidentifier(big.NewInt(40*int64(arcs[0]) + int64(arcs[1])))
	for _, arc := range arcs[2:] {
		c = append(c, subidentifier(big.NewInt(int64(arc)))...)
	}
	return c
}

// identifierOf returns the string of contents octets by the definition, and whether there is one: it takes one digit after the other, and compares the octets of what it found with c.
func identifierOf(c []byte) (string, bool) {
	var numbers []*big.Int
	n := new(big.Int)
	for _, octet := range c {
		n = new(big.Int).Add(new(big.Int).Lsh(n, 7), big.NewInt(int64(octet&0x7f)))
		if octet < 0x80 {
			numbers = append(numbers, n)
			n = new(big.Int)
		}
	}
	if len(numbers) == 0 {
		return "", false
	}
	first := new(big.Int).Div(numbers[0], big.NewInt(40))
	if first.Cmp(big.NewInt(2)) > 0 {
		first = big.NewInt(2)
	}
	second := new(big.Int).Sub(numbers[0], new(big.Int).Mul(first, big.NewInt(40)))
	numbers = append([]*big.Int{first, second}, numbers[1:]...)
	if !permitted(numbers) {
		return "", false
	}
	var arcs []uint32
	for _, n := range numbers {
		arcs = append(arcs, uint32(n.Uint64()))
	}
	if !bytes.Equal(contentsOf(arcs), c) {
		return "", false
	}
	return textOf(arcs)
}

func expectArcs(t *testing.T, s string, want []uint32, wantCode api.Code) {
	t.Helper()
	if arcs, code := oid.Arcs(s); !slices.Equal(arcs, want) || code != wantCode {
		t.Errorf("Arcs(%.200q) = %v, %v, want %v, %v", s, arcs, code, want, wantCode)
	}
}

func expectText(t *testing.T, arcs []uint32, want string, wantCode api.Code) {
	t.Helper()
	if s, code := oid.Text(arcs); s != want || code != wantCode {
		t.Errorf("Text(%v) = %q, %v, want %q, %v", arcs, s, code, want, wantCode)
	}
}

func expectEncode(t *testing.T, s string, want []byte, wantCode api.Code) {
	t.Helper()
	if c, code := oid.Encode(s); !bytes.Equal(c, want) || code != wantCode {
		t.Errorf("Encode(%.200q) = %x, %v, want %x, %v", s, c, code, want, wantCode)
	}
}

func expectDecode(t *testing.T, c []byte, want string, wantCode api.Code) {
	t.Helper()
	if s, code := oid.Decode(c); s != want || code != wantCode {
		t.Errorf("Decode(%x) = %q, %v, want %q, %v", c, s, code, want, wantCode)
	}
}

func expectCompare(t *testing.T, a, b string, want int) {
	t.Helper()
	if got := oid.Compare(a, b); got != want {
		t.Errorf("Compare(%.200q, %.200q) = %d, want %d", a, b, got, want)
	}
}

func expectUnder(t *testing.T, s, prefix string, want bool) {
	t.Helper()
	if got := oid.Under(s, prefix); got != want {
		t.Errorf("Under(%.200q, %.200q) = %v", s, prefix, got)
	}
}

// expectIdentifier checks what all functions say of an object identifier.
func expectIdentifier(t *testing.T, s string, arcs []uint32, c []byte) {
	t.Helper()
	if !oid.Valid(s) {
		t.Errorf("Valid(%q) = false", s)
	}
	expectArcs(t, s, arcs, api.OK)
	expectText(t, arcs, s, api.OK)
	expectEncode(t, s, c, api.OK)
	expectDecode(t, c, s, api.OK)
	expectCompare(t, s, s, 0)
	expectUnder(t, s, s, true)
}

// expectArcsIdentifier checks what all functions say of the object identifier with these arcs.
func expectArcsIdentifier(t *testing.T, arcs ...uint32) {
	t.Helper()
	s, ok := textOf(arcs)
	if !ok {
		t.Fatalf("%v are no arcs of an object identifier", arcs)
	}
	expectIdentifier(t, s, arcs, contentsOf(arcs))
}

// expectNone checks what all functions say of a string that is not one of an object identifier.
func expectNone(t *testing.T, s string) {
	t.Helper()
	if oid.Valid(s) {
		t.Errorf("Valid(%.200q) = true", s)
	}
	expectArcs(t, s, nil, api.ErrSyntax)
	expectEncode(t, s, nil, api.ErrInvalid)
	for _, other := range []string{s, "", "0.0", "1.2", "1.2.3", "2.4294967215", "x"} {
		expectCompare(t, s, other, 0)
		expectCompare(t, other, s, 0)
		expectUnder(t, s, other, false)
		expectUnder(t, other, s, false)
	}
}

// checkString compares all functions with the definitions, for any string.
func checkString(t *testing.T, s string) bool {
	t.Helper()
	arcs, ok := arcsOf(s)
	if ok {
		expectIdentifier(t, s, arcs, contentsOf(arcs))
	} else {
		expectNone(t, s)
	}
	return ok
}

// checkArcs compares Text with the definition, for any numbers.
func checkArcs(t *testing.T, arcs []uint32) bool {
	t.Helper()
	_, ok := textOf(arcs)
	if ok {
		expectArcsIdentifier(t, arcs...)
	} else {
		expectText(t, arcs, "", api.ErrInvalid)
	}
	return ok
}

// checkOctets compares Decode with the definition, for any octets.
func checkOctets(t *testing.T, c []byte) bool {
	t.Helper()
	s, ok := identifierOf(c)
	if ok {
		expectDecode(t, c, s, api.OK)
		expectEncode(t, s, c, api.OK)
	} else {
		expectDecode(t, c, "", api.ErrValue)
	}
	return ok
}

// P5.1, the examples of the chapter.
func TestExamples(t *testing.T) {
	expectIdentifier(t, "1.2.840.113549", []uint32{1, 2, 840, 113549}, octets("2a 86 48 86 f7 0d"))
	expectIdentifier(t, "2.5.29.15", []uint32{2, 5, 29, 15}, octets("55 1d 0f"))
	expectIdentifier(t, "2.999", []uint32{2, 999}, octets("88 37"))
	expectDecode(t, octets("80 01"), "", api.ErrValue)
	expectDecode(t, octets("2a 86"), "", api.ErrValue)
}

// P5.1: the object identifiers of the document, and those at the limits of arcs and of subidentifiers.
func TestIdentifiers(t *testing.T) {
	for _, x := range []struct {
		s    string
		arcs []uint32
		c    string
	}{
		{"0.0", []uint32{0, 0}, "00"},
		{"0.1", []uint32{0, 1}, "01"},
		{"0.38", []uint32{0, 38}, "26"},
		{"0.39", []uint32{0, 39}, "27"},
		{"1.0", []uint32{1, 0}, "28"},
		{"1.39", []uint32{1, 39}, "4f"},
		{"2.0", []uint32{2, 0}, "50"},
		{"2.1", []uint32{2, 1}, "51"},
		{"2.39", []uint32{2, 39}, "77"},
		{"2.40", []uint32{2, 40}, "78"},
		{"2.41", []uint32{2, 41}, "79"},
		{"2.47", []uint32{2, 47}, "7f"},
		{"2.48", []uint32{2, 48}, "81 00"},
		{"2.80", []uint32{2, 80}, "81 20"},
		{"2.120", []uint32{2, 120}, "81 48"},
		{"2.16303", []uint32{2, 16303}, "ff 7f"},
		{"2.16304", []uint32{2, 16304}, "81 80 00"},
		{"2.4294967214", []uint32{2, 4294967214}, "8f ff ff ff 7e"},
		{"2.4294967215", []uint32{2, 4294967215}, "8f ff ff ff 7f"},
		{"2.4294967215.4294967295", []uint32{2, 4294967215, 4294967295}, "8f ff ff ff 7f 8f ff ff ff 7f"},
		{"0.0.0", []uint32{0, 0, 0}, "00 00"},
		{"0.0.0.0.1", []uint32{0, 0, 0, 0, 1}, "00 00 00 01"},
		{"1.39.127", []uint32{1, 39, 127}, "4f 7f"},
		{"1.39.128", []uint32{1, 39, 128}, "4f 81 00"},
		{"1.39.16383", []uint32{1, 39, 16383}, "4f ff 7f"},
		{"1.39.16384", []uint32{1, 39, 16384}, "4f 81 80 00"},
		{"1.39.2097151", []uint32{1, 39, 2097151}, "4f ff ff 7f"},
		{"1.39.2097152", []uint32{1, 39, 2097152}, "4f 81 80 80 00"},
		{"1.39.268435455", []uint32{1, 39, 268435455}, "4f ff ff ff 7f"},
		{"1.39.268435456", []uint32{1, 39, 268435456}, "4f 81 80 80 80 00"},
		{"1.39.2147483647", []uint32{1, 39, 2147483647}, "4f 87 ff ff ff 7f"},
		{"1.39.2147483648", []uint32{1, 39, 2147483648}, "4f 88 80 80 80 00"},
		{"1.39.4294967294", []uint32{1, 39, 4294967294}, "4f 8f ff ff ff 7e"},
		{"1.39.4294967295", []uint32{1, 39, 4294967295}, "4f 8f ff ff ff 7f"},
		{"1.39.40.41.42", []uint32{1, 39, 40, 41, 42}, "4f 28 29 2a"},
		{"0.3.4294967295.0.80", []uint32{0, 3, 4294967295, 0, 80}, "03 8f ff ff ff 7f 00 50"},
		{"1.3.6.1.5.5.7.1.1", []uint32{1, 3, 6, 1, 5, 5, 7, 1, 1}, "2b 06 01 05 05 07 01 01"},
		{"1.2.840.113549.1.1.11", []uint32{1, 2, 840, 113549, 1, 1, 11}, "2a 86 48 86 f7 0d 01 01 0b"},
		{"2.5.4.3", []uint32{2, 5, 4, 3}, "55 04 03"},
	} {
		expectIdentifier(t, x.s, x.arcs, octets(x.c))
	}
}

// P5.1, Text: no arcs, too few ones, and first and second arcs outside their limits.
func TestTextInvalid(t *testing.T) {
	for _, arcs := range [][]uint32{
		nil, {},
		{0}, {1}, {2}, {3}, {39}, {api.MaxArc},
		{0, 40}, {1, 40}, {0, 41}, {1, 80}, {0, 79}, {0, api.MaxArc}, {1, api.MaxArc}, {1, api.MaxArc - 80}, {0, 40, 1}, {1, 40, 1},
		{3, 0}, {3, 1}, {3, 39}, {4, 0, 1}, {40, 1}, {api.MaxArc, 0}, {api.MaxArc, api.MaxArc}, {1 << 31, 1}, {256, 1}, {257, 1, 1},
		{2, api.MaxArc - 79}, {2, api.MaxArc - 78}, {2, api.MaxArc - 1}, {2, api.MaxArc}, {2, api.MaxArc - 79, 5},
	} {
		expectText(t, arcs, "", api.ErrInvalid)
	}
}

// P5.1 and P5.2: all sequences of at most four arcs out of those at the limits.
func TestAllArcs(t *testing.T) {
	count := 0
	for _, arcs := range grown(4, []uint32{0, 1, 2, 3, 39, 40, 47, 48, 127, 128, 16384, api.MaxArc - 80, api.MaxArc - 79, api.MaxArc}) {
		if checkArcs(t, arcs) {
			count++
		}
	}
	// Behind 0 and 1 there are 5 second arcs, and behind 2 those up to MaxArc - 80.
	if want := (5 + 5 + 12) * (1 + 14 + 14*14); count != want {
		t.Errorf("%d of all sequences are valid, want %d", count, want)
	}
}

// P5.1: strings with an arc above its limit, among them those whose arcs are equal to permitted ones modulo a power of 2.
func TestArcsTooGreat(t *testing.T) {
	for _, s := range []string{
		"3.1", "3.0", "3.39", "4.1", "9.1", "10.1", "20.1", "40.0", "255.1", "256.1", "257.2", "4294967295.1", "4294967296.1", "4294967297.2.3", "18446744073709551617.2",
		"0.40", "1.40", "0.41", "1.79", "1.80", "0.4294967295", "0.4294967296", "1.4294967297", "1.40.1", "0.256", "1.296", "1.18446744073709551616",
		"2.4294967216", "2.4294967217", "2.4294967295", "2.4294967296", "2.4294967297", "2.4294967216.1", "2.4294967296.1", "2.9999999999", "2.18446744073709551616", "2.18446744073709551621.29",
		"1.2.4294967296", "1.2.4294967297", "1.2.4294967299.3", "1.2.3.4294967296", "1.2.4294967300.4294967295", "2.5.8589934592", "1.2.9999999999", "1.2.10000000000", "1.2.18446744073709551615", "1.2.18446744073709551616", "1.2.18446744073709551617", "1.2.340282366920938463463374607431768211457",
		"1.2." + strings.Repeat("9", 1000), "2." + strings.Repeat("9", 1000), strings.Repeat("1", 1000) + ".2", "1.2.1" + strings.Repeat("0", 5000),
	} {
		expectNone(t, s)
	}
}

// P5.1: strings that are no numbers between points.
func TestSyntax(t *testing.T) {
	for _, s := range []string{
		"", ".", "..", "...", "0", "1", "2", "3", "4294967295", "12",
		"1.", "2.", ".1", ".2", ".1.2", "1.2.", "1.2.3.", "1..2", "1.2..3", "1...2", "..1.2", "1.2..", ".1.2.", ". ", "1. .2",
		"00.1", "01.2", "02.5", "1.02", "1.00", "0.00", "00.0", "1.2.03", "1.2.00", "1.2.0003", "1.2.010", "000000000001.2", "1.2.00000000000000000000000000000000000000003", "2.0999", "1.039",
		"+1.2", "1.+2", "1.2.+3", "-1.2", "1.-2", "1.2.-3", "1.2.-0", "-0.0", "0.-0", "0.+0", "1.2-", "1.2+", "1-2", "1+2", "1.2.-", "1.2.+", "-", "+",
		" 1.2", "1.2 ", "1. 2", "1 .2", "1.2. 3", "1.2 .3", " ", "  ", "1 2", "1.2 3", "\t1.2", "1.2\n", "1.2\r\n", "\n", "1.\n2", "1.2\x00", "\x001.2", "1\x00.2", "\x00",
		"1,2", "1.2,3", "1;2", "1:2", "1/2", "1.2/3", "1.2:3", "1_0.2", "1.1_0", "1.2.1_000", "1._2", "1.2_", "_1.2", "1.2.3_4",
		"x", "a.b", "1.x", "x.2", "1.2.x", "1.2x", "1x.2", "1.x2", "1.2.3a", "1.2.a3", "0x1.2", "1.0x2", "1.2.0x3", "1.2.0b1", "1.2.0o7", "1.2.1e3", "1e0.2", "1.2.ff", "1.2.Inf", "1.2.NaN", "OID", "oid.1.2", "OID.1.2", "urn:oid:1.2", "{1 2}", "1.2(3)", "(1.2)", "\"1.2\"", "'1.2'", "iso.2",
		"\u0661.2", "1.\u0662", "1.2.\uff13", "1\u30022", "1.2.\u00b2", "1\u00b72", "\ufeff1.2", "1.2\u00a0", "1\uff0e2", "1.\u22122", "1.2.\U0001d7d1", "\xff", "1.2\xff", "1.\xb2", "\xb1.\xb2", "1\xae2", "1.2.\xc0\xb3",
		"1.2." + strings.Repeat("0", 1000), strings.Repeat("0", 1000), strings.Repeat(".", 1000), strings.Repeat("1.", 1000), strings.Repeat(".1", 1000), "1.2" + strings.Repeat(".3", 1000) + ".", "1.2" + strings.Repeat(".3", 1000) + " ", "1.2" + strings.Repeat(".3", 1000) + ".04",
	} {
		expectNone(t, s)
	}
}

// P5.1: every octet that is neither a digit nor a point, at every place.
func TestOtherCharacters(t *testing.T) {
	for x := range 256 {
		if x >= '0' && x <= '9' || x == '.' {
			continue
		}
		octet := string([]byte{byte(x)})
		for _, s := range []string{octet, octet + "1.2", "1" + octet + ".2", "1" + octet + "2", "1." + octet + "2", "1." + octet, "1.2" + octet, "1.2" + octet + "3", "1.2." + octet, "1.2." + octet + "3", "1.2.3" + octet, "1.2.3" + octet + "4", "1.2.0" + octet, "1.2." + octet + ".3", octet + ".2", "1.2." + octet + octet} {
			expectNone(t, s)
		}
	}
}

// P5.1 and P5.2: all short strings out of a few characters are valid exactly if they are object identifiers.
func TestAllShortStrings(t *testing.T) {
	for length, alphabet := range map[int]string{5: "012349.- x", 7: "02.4", 8: "1.0"} {
		valid := 0
		for _, s := range grown(length, []byte(alphabet)) {
			if checkString(t, string(s)) {
				valid++
			}
		}
		if valid < 50 {
			t.Errorf("only %d strings out of %q are valid", valid, alphabet)
		}
	}
}

// P5.1: all numbers around the limits, as second and as further arcs.
func TestNumbers(t *testing.T) {
	var numbers []string
	for i := range 70 {
		for d := int64(-3); d <= 3; d++ {
			n := new(big.Int).Add(new(big.Int).Lsh(big.NewInt(1), uint(i)), big.NewInt(d))
			numbers = append(numbers, n.String(), "0"+n.String())
		}
	}
	for d := range int64(200) {
		numbers = append(numbers, fmt.Sprint(d), fmt.Sprint(api.MaxArc-d), fmt.Sprint(api.MaxArc+d))
	}
	for _, n := range numbers {
		for _, s := range []string{n, n + ".1", "0." + n, "1." + n, "2." + n, "3." + n, "1.2." + n, "2.3." + n + ".4", "2." + n + "." + n} {
			checkString(t, s)
		}
	}
}

// P5.1, Decode: no octets, zeros at the beginning of a subidentifier, an end inside one, and those above their limit.
func TestDecodeInvalid(t *testing.T) {
	for _, c := range []string{
		"",
		"80", "80 00", "80 01", "80 80", "80 80 01", "80 2a", "80 7f", "80 81 00", "80 ff 7f", "80 8f ff ff ff 7f",
		"2a 80", "2a 80 00", "2a 80 01", "2a 80 03", "2a 03 80 04", "2a 80 86 48", "2a 80 80", "2a 80 80 80 80 01", "2a 86 48 80 01", "88 37 80 03", "00 80 01", "00 80 00",
		"81", "ff", "8f", "2a 81", "2a 86", "2a ff", "2a 86 48 86", "2a 86 48 86 f7", "2a 8f ff ff ff", "8f ff ff ff", "8f ff ff ff ff", "2a 03 ff", "88", "2a 81 80", "81 80", "2a 81 80 80 80",
		"90 80 80 80 00", "2a 90 80 80 80 00", "90 80 80 80 01", "8f ff ff ff ff 7f", "2a 8f ff ff ff ff 7f", "bf ff ff ff 7f", "2a 9f ff ff ff 7f", "ff ff ff ff 7f", "2a ff ff ff ff 7f", "c0 80 80 80 00", "2a c0 80 80 80 00", "2a 90 80 80 80 00 01",
		"81 80 80 80 80 00", "81 80 80 80 80 80 00", "2a 81 80 80 80 80 00", "81 80 80 80 80 03", "2a 81 80 80 80 80 80 80 80 80 00", "2a 82 80 80 80 80 80 80 80 80 05", "81 80 80 80 80 80 80 80 80 80 2a", "2a ff ff ff ff ff ff ff ff ff 7f", "2a 81 80 80 80 80 80 80 80 80 80 80 80 80 05",
	} {
		expectDecode(t, octets(c), "", api.ErrValue)
	}
	for _, size := range []int{5, 6, 9, 10, 11, 100, 1000} {
		for _, digit := range []byte{0x80, 0x81, 0xa0, 0xff} {
			long := bytes.Repeat([]byte{digit}, size)
			for _, c := range [][]byte{long, join(long, []byte{0}), join(long, []byte{0x7f}), join([]byte{0x2a}, long), join([]byte{0x2a}, long, []byte{1}), join([]byte{0x81}, long, []byte{5}), join([]byte{0x2a, 0x90}, long, []byte{5})} {
				expectDecode(t, c, "", api.ErrValue)
			}
		}
	}
}

// P5.1 and P5.2, Decode: all octets, all pairs of them, and longer ones out of a few.
func TestAllShortOctets(t *testing.T) {
	found := map[string][]byte{}
	check := func(c []byte) {
		t.Helper()
		checkOctets(t, c)
		s, code := oid.Decode(c)
		if code != api.OK {
			return
		}
		if other, ok := found[s]; ok && !bytes.Equal(other, c) {
			t.Errorf("%x and %x are both decoded as %s", other, c, s)
		}
		found[s] = bytes.Clone(c)
	}
	check(nil)
	check([]byte{})
	for high := range 256 {
		check([]byte{byte(high)})
		for low := range 256 {
			check([]byte{byte(high), byte(low)})
			check([]byte{0x2a, byte(high), byte(low)})
		}
	}
	for _, c := range grown(7, []byte{0x00, 0x7f, 0x80, 0x81, 0x8f, 0x90}) {
		check(c)
	}
	for _, c := range grown(5, []byte{0x00, 0x27, 0x28, 0x4f, 0x50, 0x7f, 0x80, 0x81, 0xff}) {
		check(c)
	}
	if len(found) < 20000 {
		t.Errorf("only %d object identifiers are decoded", len(found))
	}
}

// P5.1, Decode: the first subidentifier is divided into the first two arcs, and all further ones are arcs.
func TestFirstSubidentifier(t *testing.T) {
	for n := range 20000 {
		arcs := []uint32{2, uint32(n) - 80}
		if n < 80 {
			arcs = []uint32{uint32(n / 40), uint32(n % 40)}
		}
		c := subidentifier(big.NewInt(int64(n)))
		expectIdentifier(t, fmt.Sprintf("%d.%d", arcs[0], arcs[1]), arcs, c)
		further := append(slices.Clone(arcs), uint32(n))
		expectIdentifier(t, fmt.Sprintf("%d.%d.%d", arcs[0], arcs[1], n), further, join(c, c))
	}
}

// someArcs returns random arcs of an object identifier, of all sizes.
func someArcs(source *rand.Rand) []uint32 {
	arc := func() uint32 { return source.Uint32() >> source.Intn(32) }
	arcs := []uint32{uint32(source.Intn(3))}
	if arcs[0] < 2 {
		arcs = append(arcs, uint32(source.Intn(40)))
	} else {
		arcs = append(arcs, min(arc(), api.MaxArc-80))
	}
	for range source.Intn(12) {
		arcs = append(arcs, arc())
	}
	return arcs
}

// P5.2: Arcs inverts Text, Decode inverts Encode, and the other way around, for random object identifiers.
func TestInverse(t *testing.T) {
	source := rand.New(rand.NewSource(5))
	for range 20000 {
		expectArcsIdentifier(t, someArcs(source)...)
	}
}

// P5.2: what is decoded after a change of octets is another object identifier, or none.
func TestChangedOctets(t *testing.T) {
	source := rand.New(rand.NewSource(6))
	for range 300 {
		arcs := someArcs(source)
		c := contentsOf(arcs)
		s, _ := textOf(arcs)
		for i := range c {
			for bit := range 8 {
				changed := bytes.Clone(c)
				changed[i] ^= 1 << bit
				checkOctets(t, changed)
				if other, _ := oid.Decode(changed); other == s {
					t.Errorf("%x and %x are both decoded as %s", c, changed, s)
				}
			}
			checkOctets(t, c[:i])
			checkOctets(t, join(c[:i], []byte{0x80}, c[i:]))
			checkOctets(t, join(c[:i], c[i+1:]))
		}
	}
}

// P5.1 and P5.2: object identifiers with many arcs.
func TestLong(t *testing.T) {
	for _, arc := range []uint32{0, 1, 127, 128, api.MaxArc} {
		for _, count := range []int{100, 1000, 100000} {
			arcs := append([]uint32{2, 5}, slices.Repeat([]uint32{arc}, count)...)
			s := "2.5" + strings.Repeat("."+fmt.Sprint(arc), count)
			c := append([]byte{0x55}, bytes.Repeat(subidentifier(big.NewInt(int64(arc))), count)...)
			if !oid.Valid(s) {
				t.Errorf("%d arcs %d are not valid", count, arc)
			}
			if got, code := oid.Arcs(s); !slices.Equal(got, arcs) || code != api.OK {
				t.Errorf("%d arcs %d: Arcs has the error %v", count, arc, code)
			}
			if got, code := oid.Text(arcs); got != s || code != api.OK {
				t.Errorf("%d arcs %d: Text has the error %v", count, arc, code)
			}
			if got, code := oid.Encode(s); !bytes.Equal(got, c) || code != api.OK {
				t.Errorf("%d arcs %d: Encode has the error %v", count, arc, code)
			}
			if got, code := oid.Decode(c); got != s || code != api.OK {
				t.Errorf("%d arcs %d: Decode has the error %v", count, arc, code)
			}
			expectCompare(t, s, s+".0", -1)
			expectCompare(t, s+".0", s, 1)
			expectUnder(t, s+".0", s, true)
			expectUnder(t, s, s+".0", false)
		}
	}
}

// P5.1 and P5.3, Compare: arcs are compared as numbers, and a sequence comes before those that begin with it.
func TestCompare(t *testing.T) {
	ascending := []string{
		"0.0", "0.0.0", "0.0.0.0", "0.0.1", "0.0.4294967295", "0.1", "0.2", "0.9", "0.10", "0.39", "0.39.4294967295.4294967295",
		"1.0", "1.1", "1.1.1", "1.1.2", "1.2", "1.2.0", "1.2.0.5", "1.2.1", "1.2.2", "1.2.9", "1.2.10", "1.2.10.0", "1.2.11", "1.2.19", "1.2.20", "1.2.99", "1.2.100", "1.2.127", "1.2.128", "1.2.255", "1.2.256", "1.2.999", "1.2.1000", "1.2.16383", "1.2.16384", "1.2.99999", "1.2.100000",
		"1.2.2147483647", "1.2.2147483648", "1.2.4294967294", "1.2.4294967295", "1.2.4294967295.0", "1.3", "1.9", "1.10", "1.20", "1.39.1",
		"2.0", "2.1", "2.5", "2.5.4.3", "2.5.29", "2.5.29.9", "2.5.29.14", "2.5.29.15", "2.5.29.101", "2.6", "2.10", "2.39", "2.40", "2.47", "2.48", "2.999", "2.999.1", "2.1000", "2.2147483648", "2.4294967215", "2.4294967215.4294967295",
	}
	for i, a := range ascending {
		for j, b := range ascending {
			want := 0
			if i < j {
				want = -1
			}
			if i > j {
				want = 1
			}
			expectCompare(t, a, b, want)
		}
	}
}

// order returns what Compare is to return, by the definition.
func order(a, b []uint32) int {
	for i := 0; i < len(a) && i < len(b); i++ {
		if a[i] < b[i] {
			return -1
		}
		if a[i] > b[i] {
			return 1
		}
	}
	switch {
	case len(a) < len(b):
		return -1
	case len(a) > len(b):
		return 1
	}
	return 0
}

// under returns what Under is to return, by the definition.
func under(arcs, prefix []uint32) bool {
	for i, arc := range prefix {
		if i >= len(arcs) || arcs[i] != arc {
			return false
		}
	}
	return true
}

// P5.1 and P5.3: Compare and Under of all pairs of some object identifiers, by the definitions.
func TestPairs(t *testing.T) {
	all := grown(4, []uint32{0, 1, 2, 10})
	for _, arc := range []uint32{9, 11, 12, 21, 100, 127, 128, 1 << 31, api.MaxArc} {
		all = append(all, []uint32{1, 2, arc}, []uint32{1, 2, 1, arc}, []uint32{1, 2, arc, 1}, []uint32{2, min(arc, api.MaxArc-80)})
	}
	source := rand.New(rand.NewSource(7))
	for range 200 {
		arcs := someArcs(source)
		near := slices.Clone(arcs)
		near[len(near)-1] = source.Uint32() >> source.Intn(32)
		all = append(all, arcs, arcs[:max(2, len(arcs)-1)], near)
	}
	all = slices.DeleteFunc(all, func(arcs []uint32) bool {
		_, ok := textOf(arcs)
		return !ok
	})
	for i, a := range all {
		for j := i % 3; j < len(all); j += 3 {
			s, _ := textOf(a)
			prefix, _ := textOf(all[j])
			expectCompare(t, s, prefix, order(a, all[j]))
			expectUnder(t, s, prefix, under(a, all[j]))
		}
	}
}

// P5.3: Compare is antisymmetric and transitive, and 0 only for equal strings.
func TestTotalOrder(t *testing.T) {
	var few []string
	for _, arcs := range grown(4, []uint32{0, 2, 10, api.MaxArc}) {
		if s, ok := textOf(arcs); ok {
			few = append(few, s)
		}
	}
	few = append(few, "1.2", "1.2.3", "1.10", "1.9", "1.20", "2.999", "2.5.29.15")
	for _, a := range few {
		for _, b := range few {
			ab := oid.Compare(a, b)
			if ab != -oid.Compare(b, a) || (ab == 0) != (a == b) || ab < -1 || ab > 1 {
				t.Fatalf("Compare(%q, %q) = %d is not antisymmetric", a, b, ab)
			}
			for _, c := range few {
				if ab <= 0 && oid.Compare(b, c) <= 0 && oid.Compare(a, c) > 0 {
					t.Fatalf("not transitive: %q, %q, %q", a, b, c)
				}
			}
		}
	}
}

// P5.1, Compare and Under: what one says if one of both strings, or both, are not valid, even if one begins with the other.
func TestInvalidPairs(t *testing.T) {
	none := []string{"", ".", "1", "2", "1.", "1.2.", "1.2.3.", ".1", "3.1", "1.40", "1.40.2", "01.2", "1.02", "1.2.03", "1.2.x", "1.2 ", " 1.2", "2.4294967216", "1.2.4294967296", "-1.2", "1.2.3.4.05"}
	valid := []string{"0.0", "1.0", "1.2", "1.2.3", "1.2.3.4", "1.39", "2.0", "2.5.29.15", "2.4294967215"}
	for _, s := range none {
		for _, other := range slices.Concat(none, valid) {
			expectCompare(t, s, other, 0)
			expectCompare(t, other, s, 0)
			expectUnder(t, s, other, false)
			expectUnder(t, other, s, false)
		}
	}
}

// P5.1, Under: the arcs count, not the characters.
func TestUnder(t *testing.T) {
	for _, x := range []struct {
		s, prefix string
		want      bool
	}{
		{"1.2", "1.2", true},
		{"1.2.3", "1.2", true},
		{"1.2.3", "1.2.3", true},
		{"1.2.3.4.5", "1.2.3", true},
		{"1.2.0", "1.2", true},
		{"2.5.29.15", "2.5.29", true},
		{"2.4294967215.4294967295", "2.4294967215", true},
		{"1.2", "1.2.3", false},
		{"1.2", "1.2.0", false},
		{"1.20", "1.2", false},
		{"1.2.34", "1.2.3", false},
		{"1.2.34.5", "1.2.3", false},
		{"1.2.3", "1.2.34", false},
		{"1.3.3", "1.2", false},
		{"0.2.3", "1.2", false},
		{"2.2.3", "1.2", false},
		{"1.2.3.5", "1.2.4", false},
		{"1.1.2.3", "1.2", false},
		{"1.2", "1", false},
		{"1.2", "", false},
		{"", "", false},
		{"", "1.2", false},
		{"1.2.x", "1.2", false},
		{"1.2.", "1.2", false},
		{"1.2.3", "1.2.", false},
		{"1.2.3", "1", false},
		{"1.2.03", "1.2", false},
		{"1.2.4294967296", "1.2", false},
		{"3.1.2", "3.1", false},
		{"1.40.1", "1.40", false},
	} {
		expectUnder(t, x.s, x.prefix, x.want)
	}
}

// scribble overwrites a slice and its unused capacity.
func scribble[E any](slice []E, with E) {
	all := slice[:cap(slice)]
	for i := range all {
		all[i] = with
	}
}

// P5.1 with rule 5: neither the arguments nor their unused capacity are modified, and later changes of them do not change a result.
func TestArgumentsStay(t *testing.T) {
	for _, arcs := range [][]uint32{{1, 2}, {1, 2, 840, 113549}, {2, 999, 3}, {2, api.MaxArc - 80}, {1, 40}, {5}, {0, 39, 0, 0}} {
		room := slices.Concat([]uint32{7, 7}, arcs, []uint32{8, 8, 8, 8, 8, 8})
		want := slices.Clone(room)
		text, code := oid.Text(room[2 : 2+len(arcs)])
		if !slices.Equal(room, want) {
			t.Errorf("the arcs around %v became %v", arcs, room)
		}
		scribble(room, 99)
		wantText, ok := textOf(arcs)
		if text != wantText || (code == api.OK) != ok {
			t.Errorf("the string of %v became %q", arcs, text)
		}
	}
	for _, c := range []string{"2a 86 48 86 f7 0d", "55 1d 0f", "88 37", "50", "8f ff ff ff 7f", "80 01", "2a 86", "2a 03 80 04"} {
		room := join([]byte{0x81, 0x82}, octets(c), []byte{1, 2, 3, 4, 5, 6, 7, 8, 9})
		want := bytes.Clone(room)
		text, code := oid.Decode(room[2 : 2+len(octets(c))])
		if !bytes.Equal(room, want) {
			t.Errorf("the octets around %s became %x", c, room)
		}
		scribble(room, 99)
		wantText, ok := identifierOf(octets(c))
		if text != wantText || (code == api.OK) != ok {
			t.Errorf("the string of %s became %q", c, text)
		}
	}
}

// P5.1 with rules 5 and 7: later changes of results do not change those of other calls, nor what is said of the same string.
func TestResultsAreIndependent(t *testing.T) {
	for _, s := range []string{"0.0", "1.2", "1.2.840.113549", "2.5.29.15", "2.999.3", "2.4294967215.4294967295"} {
		wantArcs, _ := arcsOf(s)
		arcs, _ := oid.Arcs(s)
		c, _ := oid.Encode(s)
		otherArcs, _ := oid.Arcs(s)
		otherOctets, _ := oid.Encode(s)
		scribble(otherArcs, 99)
		scribble(otherOctets, 99)
		_ = append(otherArcs[:0], 77, 77, 77, 77, 77, 77, 77)
		_ = append(otherOctets[:0], 77, 77, 77, 77, 77, 77, 77)
		if !slices.Equal(arcs, wantArcs) {
			t.Errorf("the arcs of %s became %v", s, arcs)
		}
		if !bytes.Equal(c, contentsOf(wantArcs)) {
			t.Errorf("the octets of %s became %x", s, c)
		}
		expectIdentifier(t, s, wantArcs, contentsOf(wantArcs))
	}
}

// P5.1 with rule 8: the functions may be called concurrently.
func TestConcurrentCalls(t *testing.T) {
	for i := range 8 {
		t.Run(fmt.Sprint(i), func(t *testing.T) {
			t.Parallel()
			source := rand.New(rand.NewSource(int64(i)))
			for range 500 {
				expectArcsIdentifier(t, someArcs(source)...)
			}
		})
	}
}
