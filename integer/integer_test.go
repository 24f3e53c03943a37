package integer_test

import (
	"bytes"
	"encoding/hex"
	"math"
	"math/big"
	"math/rand"
	"slices"
	"strconv"
	"strings"
	"testing"

	"cretula/api"
	"cretula/cursor"
	"cretula/integer"
)

// octets returns the octets that a text has in hexadecimal digits, with spaces between them.
func octets(text string) []byte {
	b, err := hex.DecodeString(strings.ReplaceAll(text, " ", ""))
	if err != nil {
		panic(err)
	}
	return b
}

// join returns all parts one after the other.
func join(parts ...[]byte) []byte { return slices.Concat(parts...) }

func zeros(n int) []byte { return make([]byte, n) }

func ones(n int) []byte { return bytes.Repeat([]byte{0xff}, n) }

// smallSlices returns all slices of at most length bytes out of an alphabet.
func smallSlices(length int, alphabet ...byte) [][]byte {
	all := [][]byte{nil}
	for from := 0; length > 0; length-- {
		to := len(all)
		for ; from < to; from++ {
			for _, b := range alphabet {
				all = append(all, append(bytes.Clone(all[from]), b))
			}
		}
	}
	return all
}

// number returns what contents octets stand for by the definition of the two's complement.
func number(c []byte) *big.Int {
	n := new(big.Int).SetBytes(c)
	if len(c) > 0 && c[0]&0x80 != 0 {
		n.Sub(n, new(big.Int).Lsh(big.NewInt(1), uint(8*len(c))))
	}
	return n
}

// complement returns the contents octets of an integer by the definition: the two's complement with the fewest octets in which it fits.
func complement(n *big.Int) []byte {
	size := 1
	for {
		limit := new(big.Int).Lsh(big.NewInt(1), uint(8*size-1))
		if n.Cmp(limit) < 0 && n.Cmp(new(big.Int).Neg(limit)) >= 0 {
			break
		}
		size++
	}
	modulo := new(big.Int).Lsh(big.NewInt(1), uint(8*size))
	return new(big.Int).Mod(n, modulo).FillBytes(make([]byte, size))
}

// bigs returns integers of both signs: small ones, those around powers of 2 and 10, and long ones of any digits.
func bigs() []*big.Int {
	var all []*big.Int
	add := func(n *big.Int) {
		for d := int64(-2); d <= 2; d++ {
			near := new(big.Int).Add(n, big.NewInt(d))
			all = append(all, near, new(big.Int).Neg(near))
		}
	}
	add(big.NewInt(0))
	for i := range 400 {
		add(new(big.Int).Lsh(big.NewInt(1), uint(i)))
	}
	ten := big.NewInt(1)
	for range 130 {
		ten = new(big.Int).Mul(ten, big.NewInt(10))
		add(ten)
	}
	source := rand.New(rand.NewSource(8))
	for i := range 600 {
		digits := make([]byte, 1+i/4)
		source.Read(digits)
		add(new(big.Int).SetBytes(digits))
	}
	return all
}

func expectValid(t *testing.T, c []byte, want bool) {
	t.Helper()
	if got := integer.Valid(c); got != want {
		t.Errorf("Valid(%x) = %v", c, got)
	}
}

func expectInt(t *testing.T, c []byte, want int64, wantOK bool) {
	t.Helper()
	if n, ok := integer.Int(c); n != want || ok != wantOK {
		t.Errorf("Int(%x) = %d, %v, want %d, %v", c, n, ok, want, wantOK)
	}
}

func expectUnsigned(t *testing.T, c, want []byte, wantCode api.Code) {
	t.Helper()
	if digits, code := integer.Unsigned(c); !bytes.Equal(digits, want) || code != wantCode {
		t.Errorf("Unsigned(%x) = %x, %v, want %x, %v", c, digits, code, want, wantCode)
	}
}

func expectDecimal(t *testing.T, c []byte, want string) {
	t.Helper()
	if got := integer.Decimal(c); got != want {
		t.Errorf("Decimal(%x) = %q, want %q", c, got, want)
	}
}

func expectParseDecimal(t *testing.T, s string, want []byte, wantCode api.Code) {
	t.Helper()
	if c, code := integer.ParseDecimal(s); !bytes.Equal(c, want) || code != wantCode {
		t.Errorf("ParseDecimal(%q) = %x, %v, want %x, %v", s, c, code, want, wantCode)
	}
}

func expectCompare(t *testing.T, a, b []byte, want int) {
	t.Helper()
	if got := integer.Compare(a, b); got != want {
		t.Errorf("Compare(%x, %x) = %d, want %d", a, b, got, want)
	}
}

// expectInvalid checks what all functions say of octets that are not valid.
func expectInvalid(t *testing.T, c []byte) {
	t.Helper()
	expectValid(t, c, false)
	expectInt(t, c, 0, false)
	expectUnsigned(t, c, nil, api.ErrValue)
	expectDecimal(t, c, "")
	if sign := integer.Sign(c); sign != 0 {
		t.Errorf("Sign(%x) = %d", c, sign)
	}
	for _, other := range [][]byte{c, nil, {0}, {5}, {0xfb}, {1, 0}, {0xfe, 0}, ones(1), zeros(20)} {
		expectCompare(t, c, other, 0)
		expectCompare(t, other, c, 0)
	}
}

// expectInteger checks what all functions say of an integer and its contents octets, which are valid.
func expectInteger(t *testing.T, n *big.Int, c []byte) {
	t.Helper()
	expectValid(t, c, true)
	expectDecimal(t, c, n.String())
	expectParseDecimal(t, n.String(), c, api.OK)
	expectCompare(t, c, c, 0)
	if sign := integer.Sign(c); sign != n.Sign() {
		t.Errorf("Sign(%x) = %d, want %d", c, sign, n.Sign())
	}
	if n.IsInt64() {
		expectInt(t, c, n.Int64(), true)
		if got := integer.FromInt(n.Int64()); !bytes.Equal(got, c) {
			t.Errorf("FromInt(%d) = %x, want %x", n, got, c)
		}
	} else {
		expectInt(t, c, 0, false)
	}
	if n.Sign() < 0 {
		expectUnsigned(t, c, nil, api.ErrRange)
		return
	}
	digits := n.Bytes()
	if len(digits) == 0 {
		digits = []byte{0}
	}
	expectUnsigned(t, c, digits, api.OK)
	for _, padding := range []int{0, 1, 2, 9} {
		padded := join(zeros(padding), digits)
		if got := integer.FromUnsigned(padded); !bytes.Equal(got, c) {
			t.Errorf("FromUnsigned(%x) = %x, want %x", padded, got, c)
		}
	}
}

// P4.1, the examples of the chapter.
func TestExamples(t *testing.T) {
	for n, want := range map[int64]string{128: "00 80", -128: "80", -129: "ff 7f"} {
		if got := integer.FromInt(n); !bytes.Equal(got, octets(want)) {
			t.Errorf("FromInt(%d) = %x, want %s", n, got, want)
		}
	}
	expectInvalid(t, octets("00 7f"))
	expectInvalid(t, octets("ff 80"))
	if got := integer.FromUnsigned(octets("ff")); !bytes.Equal(got, octets("00 ff")) {
		t.Errorf("FromUnsigned(ff) = %x", got)
	}
	expectDecimal(t, octets("01 00"), "256")
}

// P4.1 and P4.2, Boolean and FromBoolean: every octet, no octets and several ones.
func TestBoolean(t *testing.T) {
	expect := func(c []byte, want bool, wantCode api.Code) {
		t.Helper()
		if v, code := integer.Boolean(c); v != want || code != wantCode {
			t.Errorf("Boolean(%x) = %v, %v, want %v, %v", c, v, code, want, wantCode)
		}
	}
	expect(octets("00"), false, api.OK)
	expect(octets("ff"), true, api.OK)
	for octet := 1; octet < 0xff; octet++ {
		expect([]byte{byte(octet)}, false, api.ErrValue)
	}
	for _, c := range [][]byte{nil, {}, {0, 0}, {0, 0xff}, {0xff, 0}, {0xff, 0xff}, {1, 0xff}, zeros(100), ones(100)} {
		expect(c, false, api.ErrValue)
	}
	for v, want := range map[bool]byte{false: 0, true: 0xff} {
		c := integer.FromBoolean(v)
		if !bytes.Equal(c, []byte{want}) {
			t.Errorf("FromBoolean(%v) = %x", v, c)
		}
		expect(c, v, api.OK)
	}
}

// P4.1, Null: with and without contents octets.
func TestNull(t *testing.T) {
	for _, c := range [][]byte{nil, {}, octets("05 00")[:0]} {
		if code := integer.Null(c); code != api.OK {
			t.Errorf("Null(%x) = %v", c, code)
		}
	}
	for _, c := range [][]byte{{0}, {1}, {5}, {0xff}, {0, 0}, {5, 0}, zeros(1000)} {
		if code := integer.Null(c); code != api.ErrValue {
			t.Errorf("Null(%x) = %v", c, code)
		}
	}
}

// checkOctets compares all functions with the definitions, for any octets.
func checkOctets(t *testing.T, c []byte) {
	t.Helper()
	n := number(c)
	if bytes.Equal(complement(n), c) {
		expectInteger(t, n, c)
	} else {
		expectInvalid(t, c)
	}
}

// P4.1 and P4.2: no octets, every octet, all pairs of octets, and those longer ones where validity is decided.
func TestAllShortOctets(t *testing.T) {
	expectInvalid(t, nil)
	expectInvalid(t, []byte{})
	expectInvalid(t, []byte{1, 2, 3}[:0])
	for high := range 256 {
		checkOctets(t, []byte{byte(high)})
		for low := range 256 {
			checkOctets(t, []byte{byte(high), byte(low)})
		}
	}
	for _, c := range smallSlices(4, 0x00, 0x01, 0x7f, 0x80, 0xfe, 0xff) {
		checkOctets(t, c)
	}
}

// P4.1: the nine highest bits, with any octets behind them.
func TestNineHighestBits(t *testing.T) {
	for size := range 40 {
		for _, rest := range [][]byte{zeros(size), ones(size), bytes.Repeat([]byte{0x80}, size), bytes.Repeat([]byte{0x7f}, size)} {
			for _, c := range []string{"00 00", "00 01", "00 7f", "ff ff", "ff fe", "ff 80", "ff 81"} {
				expectInvalid(t, join(octets(c), rest))
			}
			for _, c := range []string{"00 80", "00 ff", "00 81", "ff 7f", "ff 00", "ff 01", "01 00", "01 ff", "7f ff", "80 00", "fe 00", "fe ff"} {
				checkOctets(t, join(octets(c), rest))
				expectValid(t, join(octets(c), rest), true)
			}
		}
	}
}

// P4.1 and P4.2: integers of all lengths and both signs.
func TestIntegers(t *testing.T) {
	for _, n := range bigs() {
		expectInteger(t, n, complement(n))
	}
}

// P4.1 and P4.2, FromInt and Int: the integers where an octet is added, and the least and the greatest ones.
func TestFromInt(t *testing.T) {
	for n, want := range map[int64]string{
		0:                 "00",
		1:                 "01",
		-1:                "ff",
		127:               "7f",
		128:               "00 80",
		-127:              "81",
		-128:              "80",
		-129:              "ff 7f",
		255:               "00 ff",
		256:               "01 00",
		-255:              "ff 01",
		-256:              "ff 00",
		-257:              "fe ff",
		32767:             "7f ff",
		32768:             "00 80 00",
		-32768:            "80 00",
		-32769:            "ff 7f ff",
		0x0102030405:      "01 02 03 04 05",
		math.MaxInt32:     "7f ff ff ff",
		math.MinInt32:     "80 00 00 00",
		1<<55 - 1:         "7f ff ff ff ff ff ff",
		1 << 55:           "00 80 00 00 00 00 00 00",
		-1 << 55:          "80 00 00 00 00 00 00",
		-1<<55 - 1:        "ff 7f ff ff ff ff ff ff",
		math.MaxInt64:     "7f ff ff ff ff ff ff ff",
		math.MaxInt64 - 1: "7f ff ff ff ff ff ff fe",
		math.MinInt64:     "80 00 00 00 00 00 00 00",
		math.MinInt64 + 1: "80 00 00 00 00 00 00 01",
	} {
		if got := integer.FromInt(n); !bytes.Equal(got, octets(want)) {
			t.Errorf("FromInt(%d) = %x, want %s", n, got, want)
		}
		expectInteger(t, big.NewInt(n), octets(want))
	}
}

// P4.2: Int inverts FromInt, whose results are valid.
func TestIntInvertsFromInt(t *testing.T) {
	check := func(n int64) {
		t.Helper()
		c := integer.FromInt(n)
		expectValid(t, c, true)
		expectInt(t, c, n, true)
		expectDecimal(t, c, strconv.FormatInt(n, 10))
	}
	for n := range int64(70000) {
		check(n)
		check(-n)
		check(math.MaxInt64 - n)
		check(math.MinInt64 + n)
	}
	for shift := range 64 {
		for _, n := range []int64{1 << shift, 1<<shift - 1, 1<<shift + 1, 0x5a5a5a5a5a5a5a5a >> shift, math.MinInt64 >> shift, -0x123456789abcdef0 >> shift} {
			check(n)
			check(-n)
		}
	}
}

// P4.1, Int: more than 8 octets, which no integer within the limits has.
func TestIntTooLong(t *testing.T) {
	for _, c := range [][]byte{
		octets("00 80 00 00 00 00 00 00 00"),
		octets("00 ff ff ff ff ff ff ff ff"),
		octets("ff 7f ff ff ff ff ff ff ff"),
		octets("ff 00 00 00 00 00 00 00 00"),
		octets("01 00 00 00 00 00 00 00 00"),
		octets("80 00 00 00 00 00 00 00 00"),
		octets("01 00 00 00 00 00 00 00 00 00 00 00 00 00 00 00 05"),
		join([]byte{1}, zeros(1000)),
		join([]byte{0xfe}, ones(1000)),
	} {
		expectValid(t, c, true)
		expectInt(t, c, 0, false)
	}
	// The least and the greatest integer with an octet that they do not need.
	expectInvalid(t, octets("00 7f ff ff ff ff ff ff ff"))
	expectInvalid(t, octets("ff 80 00 00 00 00 00 00 00"))
	expectInvalid(t, octets("00 00 00 00 00 00 00 00 05"))
}

// P4.1, FromUnsigned: no digits, zeros at the beginning, and digits whose highest bit is set.
func TestFromUnsigned(t *testing.T) {
	for _, x := range []struct{ digits, want []byte }{
		{nil, zeros(1)},
		{[]byte{}, zeros(1)},
		{zeros(1), zeros(1)},
		{zeros(2), zeros(1)},
		{zeros(1000), zeros(1)},
		{octets("05"), octets("05")},
		{octets("00 05"), octets("05")},
		{octets("00 00 05 00"), octets("05 00")},
		{octets("7f"), octets("7f")},
		{octets("80"), octets("00 80")},
		{octets("00 80"), octets("00 80")},
		{octets("00 00 80"), octets("00 80")},
		{octets("ff"), octets("00 ff")},
		{octets("ff 00"), octets("00 ff 00")},
		{octets("7f 80"), octets("7f 80")},
		{octets("00 7f ff"), octets("7f ff")},
		{ones(100), join(zeros(1), ones(100))},
		{join(zeros(50), ones(100)), join(zeros(1), ones(100))},
		{join([]byte{1}, zeros(100)), join([]byte{1}, zeros(100))},
		{join(zeros(50), []byte{1}, zeros(100)), join([]byte{1}, zeros(100))},
	} {
		got := integer.FromUnsigned(x.digits)
		if !bytes.Equal(got, x.want) {
			t.Errorf("FromUnsigned(%x) = %x, want %x", x.digits, got, x.want)
		}
		expectValid(t, got, true)
	}
}

// P4.1, Unsigned: zero, a zero octet that only the sign needs, negative integers, and octets that are not valid.
func TestUnsigned(t *testing.T) {
	expectUnsigned(t, octets("00"), octets("00"), api.OK)
	expectUnsigned(t, octets("05"), octets("05"), api.OK)
	expectUnsigned(t, octets("7f"), octets("7f"), api.OK)
	expectUnsigned(t, octets("00 80"), octets("80"), api.OK)
	expectUnsigned(t, octets("00 ff 00"), octets("ff 00"), api.OK)
	expectUnsigned(t, octets("05 00"), octets("05 00"), api.OK)
	expectUnsigned(t, join(zeros(1), ones(100)), ones(100), api.OK)
	for _, c := range []string{"80", "ff", "ff 00", "ff 7f", "80 00", "fe ff ff ff ff ff ff ff ff ff"} {
		expectUnsigned(t, octets(c), nil, api.ErrRange)
	}
	// What is not valid is no negative integer.
	for _, c := range []string{"", "00 00", "00 7f", "ff ff", "ff 80", "ff ff 00"} {
		expectUnsigned(t, octets(c), nil, api.ErrValue)
	}
}

// P4.2: Unsigned inverts FromUnsigned: it returns the digits without zeros at the beginning.
func TestUnsignedInvertsFromUnsigned(t *testing.T) {
	for _, digits := range smallSlices(4, 0x00, 0x01, 0x7f, 0x80, 0xff) {
		want := bytes.TrimLeft(digits, "\x00")
		if len(want) == 0 {
			want = zeros(1)
		}
		expectUnsigned(t, integer.FromUnsigned(digits), want, api.OK)
	}
	for n := range uint64(1 << 17) {
		for _, number := range []uint64{n, math.MaxUint64 - n} {
			expectUnsigned(t, integer.FromUnsigned(cursor.Minimal(number)), cursor.Minimal(number), api.OK)
		}
	}
}

// P4.1, Sign: zero, and both signs.
func TestSign(t *testing.T) {
	for c, want := range map[string]int{
		"00": 0, "01": 1, "7f": 1, "00 80": 1, "01 00": 1, "00 ff ff": 1,
		"ff": -1, "80": -1, "81": -1, "ff 7f": -1, "ff 00": -1, "80 00 00": -1,
		"": 0, "00 00": 0, "00 01": 0, "ff ff": 0, "ff 80": 0,
	} {
		if sign := integer.Sign(octets(c)); sign != want {
			t.Errorf("Sign(%s) = %d, want %d", c, sign, want)
		}
	}
}

// P4.1, Decimal and ParseDecimal: long integers, and those with many zeros in their notation.
func TestLongDecimals(t *testing.T) {
	for s, c := range map[string][]byte{
		"18446744073709551615":        join(zeros(1), ones(8)),
		"18446744073709551616":        join([]byte{1}, zeros(8)),
		"-18446744073709551616":       join([]byte{0xff}, zeros(8)),
		"-18446744073709551617":       join([]byte{0xfe}, ones(8)),
		"1208925819614629174706176":   join([]byte{1}, zeros(10)),
		"-9223372036854775809":        join([]byte{0xff, 0x7f}, ones(7)),
		"9223372036854775808":         join([]byte{0, 0x80}, zeros(7)),
		"1000000000":                  octets("3b 9a ca 00"),
		"-1000000000":                 octets("c4 65 36 00"),
		"1000000001":                  octets("3b 9a ca 01"),
		"4294967295":                  octets("00 ff ff ff ff"),
		"4294967296":                  octets("01 00 00 00 00"),
		"-4294967296":                 octets("ff 00 00 00 00"),
		"1000000000000000000":         octets("0d e0 b6 b3 a7 64 00 00"),
		"1000000000000000000000000":   octets("00 d3 c2 1b ce cc ed a1 00 00 00"),
		"-1000000000000000000000000":  octets("ff 2c 3d e4 31 33 12 5f 00 00 00"),
		"340282366920938463463374607": octets("01 19 79 98 12 de a1 11 97 f2 7f 0f"),
	} {
		expectDecimal(t, c, s)
		expectParseDecimal(t, s, c, api.OK)
	}
	for _, size := range []int{1, 2, 3, 8, 9, 10, 17, 18, 19, 100, 1000, 5000} {
		for _, s := range []string{strings.Repeat("9", size), "1" + strings.Repeat("0", size), strings.Repeat("1", size), "7" + strings.Repeat("0", size) + "7"} {
			n, _ := new(big.Int).SetString(s, 10)
			expectInteger(t, n, complement(n))
			n.Neg(n)
			expectInteger(t, n, complement(n))
		}
	}
}

// P4.1, ParseDecimal: strings that are not the decimal notation of any integer.
func TestParseDecimalSyntax(t *testing.T) {
	for _, s := range []string{
		"", "-", "--", "-0", "--1", "-1-", "1-", "1-1", "+", "+1", "+0", "-+1", "+-1",
		"00", "01", "-00", "-01", "-001", "000", "007", "0000000000000000000000001", "-0000000000000000000000001", "00000000000000000000",
		" ", " 1", "1 ", "1 2", "- 1", "\t1", "1\n", "\n", "1\x00", "\x00", "\x001",
		"0x1", "0x", "1e5", "1E5", "1.0", "1.", ".5", "1,000", "1_000", "_1", "1_", "0b1", "0o7", "a", "A", "f", "ff", "12a", "a12", "12a34",
		"/", ":", "1/", "1:", "-/", "-:", "0-", "0 ", "0a",
		"\u0661", "1\u0662", "\uff11", "\u22121", "\u20131", "\u00b2", "\xff", "1\xff", "-\xb1", "\xb1\xb2",
		strings.Repeat("0", 1000), strings.Repeat("1", 1000) + "x", "-" + strings.Repeat("-", 1000), strings.Repeat("9", 500) + " " + strings.Repeat("9", 500),
	} {
		expectParseDecimal(t, s, nil, api.ErrSyntax)
	}
	for x := range 256 {
		if x >= '0' && x <= '9' {
			continue
		}
		octet := string([]byte{byte(x)})
		for _, s := range []string{octet, "1" + octet, "1" + octet + "1", "-1" + octet, octet + octet} {
			expectParseDecimal(t, s, nil, api.ErrSyntax)
		}
		if octet != "-" {
			expectParseDecimal(t, octet+"1", nil, api.ErrSyntax)
			expectParseDecimal(t, "-"+octet, nil, api.ErrSyntax)
		}
	}
}

// P4.1, ParseDecimal: all strings of at most five characters out of a few are parsed exactly if they are the notation of an integer.
func TestParseDecimalOfAnyString(t *testing.T) {
	for _, s := range smallSlices(5, '-', '0', '1', '8', '+', ' ') {
		n, err := strconv.ParseInt(string(s), 10, 64)
		if err == nil && strconv.FormatInt(n, 10) == string(s) {
			expectParseDecimal(t, string(s), complement(big.NewInt(n)), api.OK)
		} else {
			expectParseDecimal(t, string(s), nil, api.ErrSyntax)
		}
	}
}

// P4.2: different valid contents octets stand for different integers, so that they have different notations.
func TestIntegersDiffer(t *testing.T) {
	seen := map[string][]byte{}
	add := func(c []byte) {
		s := integer.Decimal(c)
		if other, found := seen[s]; found && !bytes.Equal(other, c) {
			t.Fatalf("%x and %x are both %s", other, c, s)
		}
		seen[s] = c
	}
	for _, c := range smallSlices(6, 0x00, 0x01, 0x7f, 0x80, 0xff) {
		if integer.Valid(c) {
			add(c)
		}
	}
	for x := range 1 << 16 {
		if c := []byte{byte(x >> 8), byte(x)}; integer.Valid(c) {
			add(c)
		}
	}
	if len(seen) < 70000 {
		t.Errorf("there are only %d integers", len(seen))
	}
}

// P4.1 and P4.3, Compare: contents octets of different lengths and signs.
func TestCompare(t *testing.T) {
	order := [][]byte{
		join([]byte{0x80}, zeros(100)),
		join([]byte{0xff, 0x00}, ones(99)),
		join([]byte{0xff}, zeros(99)),
		octets("80 00 00 00 00 00 00 00 00"),
		octets("ff 7f ff ff ff ff ff ff ff"),
		octets("80 00 00 00 00 00 00 00"),
		octets("fe 00 00"),
		octets("ff 7f ff"),
		octets("80 00"),
		octets("80 01"),
		octets("fe ff"),
		octets("ff 00"),
		octets("ff 7f"),
		octets("80"),
		octets("81"),
		octets("fe"),
		octets("ff"),
		octets("00"),
		octets("01"),
		octets("7e"),
		octets("7f"),
		octets("00 80"),
		octets("00 ff"),
		octets("01 00"),
		octets("01 ff"),
		octets("02 00"),
		octets("7f ff"),
		octets("00 80 00"),
		octets("01 00 00"),
		octets("7f ff ff ff ff ff ff ff"),
		octets("00 80 00 00 00 00 00 00 00"),
		octets("7f ff ff ff ff ff ff ff ff"),
		join([]byte{0x00}, ones(99)),
		join([]byte{0x01}, zeros(99)),
		join([]byte{0x7f}, ones(100)),
	}
	for i, a := range order {
		for k, b := range order {
			switch {
			case i < k:
				expectCompare(t, a, b, -1)
			case i > k:
				expectCompare(t, a, b, 1)
			default:
				expectCompare(t, a, bytes.Clone(b), 0)
			}
		}
	}
}

// P4.1, Compare: 0 if any of both is not valid, even if the octets differ.
func TestCompareInvalid(t *testing.T) {
	for _, c := range []string{"", "00 00", "00 05", "00 7f", "ff ff", "ff 80", "00 00 80", "ff ff 7f"} {
		for _, other := range []string{"", "00", "05", "7f", "80", "ff", "00 80", "00 7f", "ff 7f", "ff 80", "01 00 00 00 00 00 00 00 00 00", "fe 00 00 00 00 00 00 00 00 00"} {
			expectCompare(t, octets(c), octets(other), 0)
			expectCompare(t, octets(other), octets(c), 0)
		}
	}
}

// P4.3: Compare is the order of the integers, and so a total one.
func TestCompareIsTheOrderOfTheIntegers(t *testing.T) {
	all := bigs()
	for x := -300; x <= 300; x++ {
		all = append(all, big.NewInt(int64(x)))
	}
	contents := make([][]byte, len(all))
	for i, n := range all {
		contents[i] = complement(n)
	}
	source := rand.New(rand.NewSource(9))
	for range 300000 {
		a, b := source.Intn(len(all)), source.Intn(len(all))
		expectCompare(t, contents[a], contents[b], all[a].Cmp(all[b]))
	}
	var valid [][]byte
	for _, c := range smallSlices(3, 0x00, 0x01, 0x7f, 0x80, 0x81, 0xff) {
		if integer.Valid(c) {
			valid = append(valid, c)
		}
	}
	for _, a := range valid {
		for _, b := range valid {
			want := number(a).Cmp(number(b))
			expectCompare(t, a, b, want)
			if (want == 0) != bytes.Equal(a, b) {
				t.Errorf("%x and %x are the same integer", a, b)
			}
		}
	}
}

// P4.3: Compare is antisymmetric and transitive.
func TestCompareIsATotalOrder(t *testing.T) {
	var few [][]byte
	for _, c := range smallSlices(3, 0x00, 0x7f, 0x80, 0xff) {
		if integer.Valid(c) {
			few = append(few, c)
		}
	}
	for _, a := range few {
		for _, b := range few {
			order := integer.Compare(a, b)
			if order != -integer.Compare(b, a) || (order == 0) != bytes.Equal(a, b) {
				t.Fatalf("Compare(%x, %x) = %d is not antisymmetric", a, b, order)
			}
			for _, c := range few {
				if order <= 0 && integer.Compare(b, c) <= 0 && integer.Compare(a, c) > 0 {
					t.Fatalf("not transitive: %x, %x, %x", a, b, c)
				}
			}
		}
	}
}

// scribble overwrites a slice and its unused capacity.
func scribble(b []byte) {
	all := b[:cap(b)]
	for i := range all {
		all[i] = 99
	}
}

// P4.1 with rule 5: neither the arguments nor their unused capacity are modified.
func TestArgumentsStay(t *testing.T) {
	for _, text := range []string{"00", "ff", "7b", "80", "00 80", "ff 7f", "00 00 05", "ff ff 85", "8a bc de f0 12 34 56 78 9a bc", "00 8a bc de f0 12 34 56 78 9a bc", "00 00"} {
		c := octets(text)
		room := join([]byte{1, 2}, c, []byte{3, 4, 5, 6, 7, 8, 9, 10, 11, 12})
		want := bytes.Clone(room)
		part := room[2 : 2+len(c)]
		integer.Boolean(part)
		integer.Null(part)
		integer.Valid(part)
		integer.Int(part)
		integer.Sign(part)
		integer.Compare(part, room[1:5])
		integer.Compare(room[1:5], part)
		integer.FromUnsigned(part)
		integer.Unsigned(part)
		integer.Decimal(part)
		if !bytes.Equal(room, want) {
			t.Errorf("the octets around %s became %x", text, room)
		}
	}
}

// P4.1 with rule 5, Unsigned and FromUnsigned: later changes of an argument do not change a result, and those of a result not the argument.
func TestResultsAreCopies(t *testing.T) {
	type conversion func(c []byte) []byte
	fromUnsigned := conversion(integer.FromUnsigned)
	unsigned := conversion(func(c []byte) []byte {
		digits, _ := integer.Unsigned(c)
		return digits
	})
	for _, x := range []struct {
		call      conversion
		from, got string
	}{
		{fromUnsigned, "05 06", "05 06"},
		{fromUnsigned, "00 00 05 06", "05 06"},
		{fromUnsigned, "85 06", "00 85 06"},
		{fromUnsigned, "00 00 85 06", "00 85 06"},
		{fromUnsigned, "00", "00"},
		{unsigned, "05 06", "05 06"},
		{unsigned, "00 85 06", "85 06"},
		{unsigned, "00", "00"},
	} {
		room := join(octets(x.from), []byte{7, 7, 7, 7})
		from := room[:len(octets(x.from))]
		got := x.call(from)
		scribble(room)
		if !bytes.Equal(got, octets(x.got)) {
			t.Errorf("the result for %s became %x", x.from, got)
		}
		copy(from, octets(x.from))
		got = x.call(from)
		scribble(got)
		if !bytes.Equal(from, octets(x.from)) || !bytes.Equal(room[len(from):], []byte{99, 99, 99, 99}) {
			t.Errorf("the argument %s became %x", x.from, room)
		}
		if again := x.call(from); !bytes.Equal(again, octets(x.got)) {
			t.Errorf("the next result for %s became %x", x.from, again)
		}
	}
}

// P4.1 with rule 7: later changes of results do not change those of other calls.
func TestResultsAreIndependent(t *testing.T) {
	calls := map[string]func() []byte{
		"00":                      func() []byte { return integer.FromBoolean(false) },
		"ff":                      func() []byte { return integer.FromBoolean(true) },
		"05":                      func() []byte { return integer.FromInt(5) },
		"7f ff ff ff ff ff ff ff": func() []byte { return integer.FromInt(math.MaxInt64) },
		"00 ":                     func() []byte { return integer.FromUnsigned(nil) },
		" 00":                     func() []byte { return integer.FromInt(0) },
		" 00 ": func() []byte {
			c, _ := integer.ParseDecimal("0")
			return c
		},
		"ff 7f": func() []byte {
			c, _ := integer.ParseDecimal("-129")
			return c
		},
		"01 00 00 00 00 00 00 00 00 00 00": func() []byte {
			c, _ := integer.ParseDecimal("1208925819614629174706176")
			return c
		},
	}
	for text, call := range calls {
		first := call()
		scribble(call())
		_ = append(call(), 77, 77, 77)
		if again := call(); !bytes.Equal(first, octets(text)) || !bytes.Equal(again, octets(text)) {
			t.Errorf("%s: the results became %x and %x", text, first, again)
		}
	}
}
