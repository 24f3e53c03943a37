package tlv_test

import (
	"bytes"
	"encoding/hex"
	"math"
	"math/rand"
	"strings"
	"testing"

	"cretula/api"
	"cretula/tlv"
)

var none = api.Error{}

func failure(code api.Code, offset int) api.Error { return api.Error{Code: code, Offset: offset} }

// octets returns the octets that a text has in hexadecimal digits, with spaces between them.
func octets(text string) []byte {
	b, err := hex.DecodeString(strings.ReplaceAll(text, " ", ""))
	if err != nil {
		panic(err)
	}
	return b
}

func expectIdentifier(t *testing.T, class int, constructed bool, number int, want byte, wantCode api.Code) {
	t.Helper()
	if got, code := tlv.Identifier(class, constructed, number); got != want || code != wantCode {
		t.Errorf("Identifier(%d, %v, %d) = %#02x, %v, want %#02x, %v", class, constructed, number, got, code, want, wantCode)
	}
}

func expectReadIdentifier(t *testing.T, x byte, class int, constructed bool, number int, want api.Code) {
	t.Helper()
	c, is, n, code := tlv.ReadIdentifier(x)
	if c != class || is != constructed || n != number || code != want {
		t.Errorf("ReadIdentifier(%#02x) = %d, %v, %d, %v, want %d, %v, %d, %v", x, c, is, n, code, class, constructed, number, want)
	}
}

func expectLength(t *testing.T, n int, want []byte, wantCode api.Code) {
	t.Helper()
	if got, code := tlv.Length(n); !bytes.Equal(got, want) || code != wantCode {
		t.Errorf("Length(%d) = %x, %v, want %x, %v", n, got, code, want, wantCode)
	}
}

func expectReadLength(t *testing.T, b []byte, length, size int, want api.Error) {
	t.Helper()
	if n, s, err := tlv.ReadLength(b); n != length || s != size || err != want {
		t.Errorf("ReadLength(%x) = %d, %d, %v, want %d, %d, %v", b, n, s, err, length, size, want)
	}
}

func expectHeader(t *testing.T, b []byte, want api.Header, wantErr api.Error) {
	t.Helper()
	if got, err := tlv.ReadHeader(b); got != want || err != wantErr {
		t.Errorf("ReadHeader(%x) = %v, %v, want %v, %v", b, got, err, want, wantErr)
	}
}

func expectNext(t *testing.T, b []byte, want api.Header, content, rest []byte, wantErr api.Error) {
	t.Helper()
	got, c, r, err := tlv.Next(b)
	if got != want || !bytes.Equal(c, content) || !bytes.Equal(r, rest) || err != wantErr {
		t.Errorf("Next(%x) = %v, %x, %x, %v, want %v, %x, %x, %v", b, got, c, r, err, want, content, rest, wantErr)
	}
}

func mustEncode(t *testing.T, class int, constructed bool, number int, content []byte) []byte {
	t.Helper()
	b, code := tlv.Encode(class, constructed, number, content)
	if code != api.OK {
		t.Fatalf("Encode(%d, %v, %d, %d octets) returns the code %v", class, constructed, number, len(content), code)
	}
	return b
}

// P2.1, the examples of the chapter.
func TestExamples(t *testing.T) {
	expectIdentifier(t, api.Context, true, 3, 0xa3, api.OK)
	expectLength(t, 127, octets("7f"), api.OK)
	expectLength(t, 128, octets("81 80"), api.OK)
	expectLength(t, 256, octets("82 01 00"), api.OK)
	expectReadLength(t, octets("81 7f"), 0, 0, failure(api.ErrLength, 0))
	if got := mustEncode(t, api.Universal, false, 2, []byte{5}); !bytes.Equal(got, octets("02 01 05")) {
		t.Errorf("the INTEGER 5 is %x", got)
	}
	header := api.Header{Class: api.Universal, Number: 2, Length: 1, Size: 2}
	expectNext(t, octets("02 01 05 05 00"), header, octets("05"), octets("05 00"), none)
}

// P2.1, Identifier: where each part of the tag is in the octet.
func TestIdentifier(t *testing.T) {
	for _, x := range []struct {
		class       int
		constructed bool
		number      int
		want        byte
	}{
		{api.Universal, false, 0, 0x00},
		{api.Universal, false, api.TagInteger, 0x02},
		{api.Universal, false, api.TagBMP, 0x1e},
		{api.Universal, true, 0, 0x20},
		{api.Universal, true, api.TagSequence, 0x30},
		{api.Universal, true, api.TagSet, 0x31},
		{api.Application, false, 0, 0x40},
		{api.Application, true, 30, 0x7e},
		{api.Context, false, 0, 0x80},
		{api.Context, true, 0, 0xa0},
		{api.Context, false, 15, 0x8f},
		{api.Context, false, 16, 0x90},
		{api.Private, false, 0, 0xc0},
		{api.Private, true, 1, 0xe1},
		{api.Private, true, 30, 0xfe},
	} {
		expectIdentifier(t, x.class, x.constructed, x.number, x.want, api.OK)
		expectReadIdentifier(t, x.want, x.class, x.constructed, x.number, api.OK)
	}
}

// outsideNumbers are those that no class and no number of a tag is, some of which look like one in their lowest bits.
var outsideNumbers = []int{-1, -2, -31, -32, -256, 31, 32, 33, 64, 255, 256, 257, 1 << 32, math.MinInt, math.MinInt + 1, math.MaxInt}

// P2.1, Identifier: classes and numbers outside their ranges, one at a time and both together.
func TestIdentifierOutside(t *testing.T) {
	for _, constructed := range []bool{false, true} {
		for _, wrong := range outsideNumbers {
			for class := range 4 {
				expectIdentifier(t, class, constructed, wrong, 0, api.ErrRange)
			}
			for number := range 31 {
				expectIdentifier(t, wrong, constructed, number, 0, api.ErrRange)
			}
			for _, other := range outsideNumbers {
				expectIdentifier(t, wrong, constructed, other, 0, api.ErrRange)
			}
		}
		for class := 4; class <= 30; class++ {
			expectIdentifier(t, class, constructed, 1, 0, api.ErrRange)
		}
	}
}

// P2.1 and P2.2, ReadIdentifier: it inverts Identifier for every tag, and the number 31 is the only one that is refused.
func TestAllIdentifiers(t *testing.T) {
	seen := map[byte]bool{}
	for class := range 4 {
		for _, constructed := range []bool{false, true} {
			for number := range 31 {
				octet, code := tlv.Identifier(class, constructed, number)
				if code != api.OK || seen[octet] {
					t.Errorf("Identifier(%d, %v, %d) = %#02x, %v", class, constructed, number, octet, code)
				}
				seen[octet] = true
				expectReadIdentifier(t, octet, class, constructed, number, api.OK)
			}
		}
	}
	for x := range 256 {
		if x%32 == 31 {
			expectReadIdentifier(t, byte(x), 0, false, 0, api.ErrTag)
			continue
		}
		class, constructed, number, code := tlv.ReadIdentifier(byte(x))
		if code != api.OK {
			t.Errorf("ReadIdentifier(%#02x) returns the code %v", x, code)
		}
		expectIdentifier(t, class, constructed, number, byte(x), api.OK)
	}
}

// lengths are those around which the length octets change, with their octets.
var lengths = []struct {
	n    int
	want string
}{
	{0, "00"},
	{1, "01"},
	{2, "02"},
	{126, "7e"},
	{127, "7f"},
	{128, "81 80"},
	{129, "81 81"},
	{200, "81 c8"},
	{254, "81 fe"},
	{255, "81 ff"},
	{256, "82 01 00"},
	{257, "82 01 01"},
	{65535, "82 ff ff"},
	{65536, "83 01 00 00"},
	{65537, "83 01 00 01"},
	{0x123456, "83 12 34 56"},
	{1<<24 - 1, "83 ff ff ff"},
	{1 << 24, "84 01 00 00 00"},
	{0x12345678, "84 12 34 56 78"},
	{api.MaxLength - 1, "84 7f ff ff fe"},
	{api.MaxLength, "84 7f ff ff ff"},
}

// P2.1 and P2.2, Length and ReadLength: ordinary lengths up to MaxLength, with other bytes behind them.
func TestLengths(t *testing.T) {
	for _, x := range lengths {
		want := octets(x.want)
		expectLength(t, x.n, want, api.OK)
		for _, behind := range []string{"", "00", "80", "ff", "01 02 03 04 05 06"} {
			expectReadLength(t, append(octets(x.want), octets(behind)...), x.n, len(want), none)
		}
	}
}

// P2.1, Length: negative numbers, and those above MaxLength.
func TestLengthOutside(t *testing.T) {
	for _, n := range []int{-1, -2, -127, -128, -256, math.MinInt, math.MinInt + 1} {
		expectLength(t, n, nil, api.ErrRange)
	}
	for _, n := range []int{1 << 31, 1<<31 + 1, 1<<32 - 1, 1 << 32, 1<<32 + 1, 1 << 40, math.MaxInt - 1, math.MaxInt} {
		expectLength(t, n, nil, api.ErrRange)
	}
}

// wrongLengths are octets at whose beginning there are no length octets, with the error.
var wrongLengths = []struct {
	b    string
	want api.Error
}{
	{"", failure(api.ErrShort, 0)},
	// The indefinite form, and too many digits, however many there are, and whatever they are.
	{"80", failure(api.ErrLength, 0)},
	{"80 00", failure(api.ErrLength, 0)},
	{"80 00 00 00 00 00", failure(api.ErrLength, 0)},
	{"85", failure(api.ErrLength, 0)},
	{"85 01", failure(api.ErrLength, 0)},
	{"85 00 00 00 00 80", failure(api.ErrLength, 0)},
	{"85 01 00 00 00 00", failure(api.ErrLength, 0)},
	{"86 00 00 00 00 01 00", failure(api.ErrLength, 0)},
	{"88 00 00 00 00 00 00 00 ff", failure(api.ErrLength, 0)},
	{"fe", failure(api.ErrLength, 0)},
	{"ff", failure(api.ErrLength, 0)},
	{"ff ff ff ff ff ff", failure(api.ErrLength, 0)},
	// Too few octets, which comes ahead of what is wrong with those that there are.
	{"81", failure(api.ErrShort, 1)},
	{"82", failure(api.ErrShort, 1)},
	{"82 01", failure(api.ErrShort, 2)},
	{"82 00", failure(api.ErrShort, 2)},
	{"83", failure(api.ErrShort, 1)},
	{"83 01", failure(api.ErrShort, 2)},
	{"83 01 00", failure(api.ErrShort, 3)},
	{"83 00 00", failure(api.ErrShort, 3)},
	{"84", failure(api.ErrShort, 1)},
	{"84 01", failure(api.ErrShort, 2)},
	{"84 01 00", failure(api.ErrShort, 3)},
	{"84 01 00 00", failure(api.ErrShort, 4)},
	{"84 00 00 00", failure(api.ErrShort, 4)},
	{"84 ff ff ff", failure(api.ErrShort, 4)},
	// Below 128 in the long form.
	{"81 00", failure(api.ErrLength, 0)},
	{"81 01", failure(api.ErrLength, 0)},
	{"81 7f", failure(api.ErrLength, 0)},
	{"82 00 00", failure(api.ErrLength, 0)},
	{"82 00 7f", failure(api.ErrLength, 0)},
	{"83 00 00 7f", failure(api.ErrLength, 0)},
	{"84 00 00 00 00", failure(api.ErrLength, 0)},
	{"84 00 00 00 7f", failure(api.ErrLength, 0)},
	// A zero digit at the beginning.
	{"82 00 80", failure(api.ErrLength, 0)},
	{"82 00 ff", failure(api.ErrLength, 0)},
	{"83 00 01 00", failure(api.ErrLength, 0)},
	{"83 00 ff ff", failure(api.ErrLength, 0)},
	{"84 00 01 00 00", failure(api.ErrLength, 0)},
	{"84 00 ff ff ff", failure(api.ErrLength, 0)},
	{"84 00 00 00 80", failure(api.ErrLength, 0)},
	// Above MaxLength.
	{"84 80 00 00 00", failure(api.ErrLength, 0)},
	{"84 80 00 00 05", failure(api.ErrLength, 0)},
	{"84 ff ff ff ff", failure(api.ErrLength, 0)},
}

// P2.1, ReadLength and ReadHeader: each error, alone and behind an identifier octet, and whether or not other bytes follow.
func TestWrongLengths(t *testing.T) {
	for _, x := range wrongLengths {
		b := octets(x.b)
		expectReadLength(t, b, 0, 0, x.want)
		moved := failure(x.want.Code, x.want.Offset+1)
		for _, identifier := range []byte{0x00, 0x04, 0x30, 0xfe} {
			element := append([]byte{identifier}, b...)
			expectHeader(t, element, api.Header{}, moved)
			expectNext(t, element, api.Header{}, nil, nil, moved)
		}
		if x.want.Code != api.ErrLength {
			continue
		}
		longer := append(bytes.Clone(b), 0x81, 0x82, 0x00, 0x7f, 0xff, 0x01, 0x01, 0x01)
		expectReadLength(t, longer, 0, 0, x.want)
		expectHeader(t, append([]byte{4}, longer...), api.Header{}, moved)
		expectNext(t, append([]byte{4}, longer...), api.Header{}, nil, nil, moved)
	}
}

// P2.1, ReadHeader: an empty input, and the number 31, which is the first error of what follows too.
func TestHeaderErrors(t *testing.T) {
	for _, empty := range [][]byte{nil, {}, []byte{4, 0}[:0]} {
		expectHeader(t, empty, api.Header{}, failure(api.ErrShort, 0))
		expectNext(t, empty, api.Header{}, nil, nil, failure(api.ErrShort, 0))
	}
	for x := 31; x < 256; x += 32 {
		for _, behind := range []string{"", "00", "01 00", "05", "80", "81 00", "82", "84 ff ff ff ff", "ff"} {
			b := append([]byte{byte(x)}, octets(behind)...)
			expectHeader(t, b, api.Header{}, failure(api.ErrTag, 0))
			expectNext(t, b, api.Header{}, nil, nil, failure(api.ErrTag, 0))
		}
	}
}

// P2.1, ReadHeader: every tag with every length, where the contents octets need not be there.
func TestHeaders(t *testing.T) {
	for class := range 4 {
		for _, constructed := range []bool{false, true} {
			for number := range 31 {
				identifier, _ := tlv.Identifier(class, constructed, number)
				for _, x := range lengths {
					b := append([]byte{identifier}, octets(x.want)...)
					want := api.Header{Class: class, Number: number, Constructed: constructed, Length: x.n, Size: len(b)}
					expectHeader(t, b, want, none)
					expectHeader(t, append(b, 0x80, 0xff), want, none)
				}
			}
		}
	}
}

// P2.1, Next: fewer contents octets than the header says, which are never read beyond the end of the input.
func TestContentsTooShort(t *testing.T) {
	for _, x := range lengths {
		head := append([]byte{4}, octets(x.want)...)
		for _, missing := range []int{1, 2, x.n / 2, x.n - 1, x.n} {
			there := x.n - missing
			if missing < 1 || there < 0 || there > 1<<17 {
				continue
			}
			b := make([]byte, len(head)+there, len(head)+there+8)
			copy(b, head)
			if _, _, _, err := tlv.Next(b); err != failure(api.ErrShort, len(b)) {
				t.Errorf("Next of %x and %d octets returns %v", head, there, err)
			}
			expectHeader(t, b, api.Header{Number: 4, Length: x.n, Size: len(head)}, none)
		}
	}
	expectNext(t, octets("04 02 00"), api.Header{}, nil, nil, failure(api.ErrShort, 3))
	expectNext(t, octets("30 03 02 01"), api.Header{}, nil, nil, failure(api.ErrShort, 4))
	expectNext(t, octets("04 84 7f ff ff ff 00"), api.Header{}, nil, nil, failure(api.ErrShort, 7))
}

// P2.1, Encode: tags outside their ranges, whatever the contents octets are.
func TestEncodeOutside(t *testing.T) {
	expectNothing := func(class, number int, content []byte) {
		t.Helper()
		for _, constructed := range []bool{false, true} {
			if b, code := tlv.Encode(class, constructed, number, content); len(b) != 0 || code != api.ErrRange {
				t.Errorf("Encode(%d, %v, %d, %x) = %x, %v", class, constructed, number, content, b, code)
			}
		}
	}
	for _, content := range [][]byte{nil, {}, {5}, octets("02 01 05")} {
		expectNothing(4, 2, content)
		for _, wrong := range outsideNumbers {
			expectNothing(wrong, 2, content)
			expectNothing(api.Context, wrong, content)
			expectNothing(wrong, wrong, content)
		}
	}
}

// P2.1, Encode: contents octets just above MaxLength, which are refused before they are looked at.
func TestEncodeTooLong(t *testing.T) {
	b, code := tlv.Encode(api.Universal, false, api.TagOctetString, make([]byte, api.MaxLength+1))
	if len(b) != 0 || code != api.ErrRange {
		t.Errorf("Encode returns %d octets, %v", len(b), code)
	}
}

// P2.1, Encode: the contents octets are taken as they are, also if they are no elements.
func TestEncode(t *testing.T) {
	for _, x := range []struct {
		class       int
		constructed bool
		number      int
		content     string
		want        string
	}{
		{api.Universal, false, api.TagNull, "", "05 00"},
		{api.Universal, false, api.TagBoolean, "ff", "01 01 ff"},
		{api.Universal, false, 0, "", "00 00"},
		{api.Universal, true, api.TagSequence, "02 01 01 05 00", "30 05 02 01 01 05 00"},
		{api.Universal, true, api.TagSet, "", "31 00"},
		{api.Universal, true, api.TagSequence, "02 01", "30 02 02 01"},
		{api.Context, true, 0, "02 01 02", "a0 03 02 01 02"},
		{api.Application, false, 30, "00", "5e 01 00"},
		{api.Private, true, 30, "1f", "fe 01 1f"},
	} {
		content := octets(x.content)
		b := mustEncode(t, x.class, x.constructed, x.number, content)
		if !bytes.Equal(b, octets(x.want)) {
			t.Errorf("the element is %x, want %s", b, x.want)
		}
		header := api.Header{Class: x.class, Number: x.number, Constructed: x.constructed, Length: len(content), Size: 2}
		expectNext(t, b, header, content, nil, none)
	}
}

// P2.2: Next inverts Encode for every tag, and for every length of length octets, with nothing and with other bytes behind.
func TestNextInvertsEncode(t *testing.T) {
	source := rand.New(rand.NewSource(2))
	check := func(class int, constructed bool, number int, content, behind []byte) {
		t.Helper()
		b := append(mustEncode(t, class, constructed, number, content), behind...)
		header, got, rest, err := tlv.Next(b)
		size := len(b) - len(behind) - len(content)
		want := api.Header{Class: class, Number: number, Constructed: constructed, Length: len(content), Size: size}
		if header != want || !bytes.Equal(got, content) || !bytes.Equal(rest, behind) || err != none {
			t.Fatalf("Next = %v, %d and %d octets, %v, want %v", header, len(got), len(rest), err, want)
		}
		octets, _ := tlv.Length(len(content))
		if size != 1+len(octets) || !bytes.Equal(b[1:size], octets) {
			t.Fatalf("the length octets of %d are %x", len(content), b[1:size])
		}
	}
	behinds := [][]byte{nil, {0}, octets("05 00"), octets("1f ff ff"), octets("04 05 01")}
	for _, n := range []int{0, 1, 2, 126, 127, 128, 129, 255, 256, 257, 1000} {
		content := make([]byte, n)
		source.Read(content)
		for class := range 4 {
			for number := range 31 {
				for _, behind := range behinds {
					check(class, false, number, content, behind)
					check(class, true, number, content, behind)
				}
			}
		}
	}
	for _, n := range []int{65534, 65535, 65536, 65537, 1<<24 - 1, 1 << 24} {
		content := make([]byte, n)
		source.Read(content)
		check(api.Universal, false, api.TagOctetString, content, octets("05 00"))
	}
}

// P2.2, ReadLength inverts Length: many lengths, of which no two have the same octets.
func TestReadLengthInvertsLength(t *testing.T) {
	check := func(n int) {
		t.Helper()
		b, code := tlv.Length(n)
		if code != api.OK || len(b) == 0 || len(b) > 5 {
			t.Fatalf("Length(%d) = %x, %v", n, b, code)
		}
		expectReadLength(t, b, n, len(b), none)
		expectReadLength(t, append(b, 0, 0x81), n, len(b), none)
	}
	for n := range 1 << 17 {
		check(n)
		check(api.MaxLength - n)
	}
	for shift := range 31 {
		for _, n := range []int{1<<shift - 1, 1 << shift, 1<<shift + 1, 0x6ad3 << shift & api.MaxLength, api.MaxLength >> shift} {
			check(n)
		}
	}
}

// smallSlices returns all slices of at most length bytes out of an alphabet.
func smallSlices(length int, alphabet ...byte) [][]byte {
	all := [][]byte{nil}
	for from := 0; length > 0; length-- {
		to := len(all)
		for ; from < to; from++ {
			for _, b := range alphabet {
				all = append(all, append(bytes.Clone(all[from]), b))
			}
		}
	}
	return all
}

// checkLengthOctets compares ReadLength with the definition of length octets: b either begins with those of Length, or not.
func checkLengthOctets(t *testing.T, b []byte) {
	t.Helper()
	n, size, err := tlv.ReadLength(b)
	if err != none {
		if n != 0 || size != 0 || err.Offset < 0 || err.Offset > len(b) {
			t.Fatalf("ReadLength(%x) = %d, %d, %v", b, n, size, err)
		}
		return
	}
	want, code := tlv.Length(n)
	if code != api.OK || size != len(want) || !bytes.HasPrefix(b, want) {
		t.Fatalf("ReadLength(%x) = %d, %d, but Length gives %x, %v", b, n, size, want, code)
	}
}

// P2.2, ReadLength: whatever is read at the beginning of any bytes is what Length returns.
func TestReadLengthOfAnyBytes(t *testing.T) {
	for x := range 1 << 16 {
		checkLengthOctets(t, []byte{byte(x >> 8), byte(x)})
		checkLengthOctets(t, []byte{0x82, byte(x >> 8), byte(x)})
		checkLengthOctets(t, []byte{0x83, 0, byte(x >> 8), byte(x)})
		checkLengthOctets(t, []byte{0x84, byte(x >> 8), byte(x), 1, 2})
	}
	for _, b := range smallSlices(6, 0x00, 0x01, 0x7f, 0x80, 0x81, 0x82, 0x84, 0xff) {
		checkLengthOctets(t, b)
	}
}

// checkNext compares what Next reads with what Encode returns for it.
func checkNext(t *testing.T, b []byte) {
	t.Helper()
	header, content, rest, err := tlv.Next(b)
	if err != none {
		if header != (api.Header{}) || len(content) != 0 || len(rest) != 0 || err.Offset < 0 || err.Offset > len(b) {
			t.Fatalf("Next(%x) = %v, %x, %x, %v", b, header, content, rest, err)
		}
		return
	}
	encoded := mustEncode(t, header.Class, header.Constructed, header.Number, content)
	if header.Length != len(content) || header.Size+header.Length != len(encoded) || !bytes.Equal(append(encoded, rest...), b) {
		t.Fatalf("Next(%x) = %v, %x, %x", b, header, content, rest)
	}
	expectHeader(t, b, header, none)
}

// P2.2, Next: whatever is read at the beginning of any bytes is encoded as the bytes that were read.
func TestNextOfAnyBytes(t *testing.T) {
	for x := range 1 << 16 {
		checkNext(t, []byte{byte(x >> 8), byte(x)})
		checkNext(t, []byte{byte(x >> 8), byte(x), 7, 8, 9})
	}
	for _, b := range smallSlices(6, 0x00, 0x01, 0x02, 0x04, 0x1f, 0x80, 0x81, 0xa0) {
		checkNext(t, b)
	}
	source := rand.New(rand.NewSource(3))
	for range 20000 {
		b := make([]byte, source.Intn(400))
		source.Read(b)
		if len(b) > 1 {
			b[1] = []byte{b[1] & 0x7f, 0x81, 0x82, 0x80, b[1]}[source.Intn(5)]
		}
		checkNext(t, b)
	}
}

// P2.3: no encoding of an element begins with another one, but for itself.
func TestNoEncodingIsAPrefix(t *testing.T) {
	var all [][]byte
	for _, content := range append(smallSlices(2, 0, 1, 2, 0x81), make([]byte, 127), make([]byte, 128), make([]byte, 129), make([]byte, 256)) {
		for class := range 4 {
			all = append(all, mustEncode(t, class, false, 2, content), mustEncode(t, class, true, 30, content), mustEncode(t, class, false, 0, content))
		}
	}
	for i, a := range all {
		for j, b := range all {
			if i != j && bytes.HasPrefix(b, a) {
				t.Fatalf("%x begins with %x", b, a)
			}
		}
	}
}

// P2.3: no part at the beginning of an encoding is read as an element, and more bytes behind it do not change what is read.
func TestPartsOfAnEncoding(t *testing.T) {
	for _, n := range []int{0, 1, 2, 127, 128, 200, 255, 256, 300, 65536} {
		b := mustEncode(t, api.Context, true, 5, make([]byte, n))
		step := max(1, n/500)
		for end := 0; end < len(b); end += step {
			expectNext(t, b[:end], api.Header{}, nil, nil, failure(api.ErrShort, end))
		}
		expectNext(t, b[:len(b)-1], api.Header{}, nil, nil, failure(api.ErrShort, len(b)-1))
		want := api.Header{Class: api.Context, Number: 5, Constructed: true, Length: n, Size: len(b) - n}
		for _, behind := range [][]byte{nil, {0}, {0xa5}, b} {
			expectNext(t, append(bytes.Clone(b), behind...), want, make([]byte, n), behind, none)
		}
	}
}

// scribble overwrites a slice and its unused capacity.
func scribble(b []byte) {
	all := b[:cap(b)]
	for i := range all {
		all[i] = 99
	}
}

// P2.1 with rule 5, Next: later changes of the input change no result.
func TestInputIsCopied(t *testing.T) {
	input := octets("04 02 0a 0b 05 00")
	_, content, rest, _ := tlv.Next(input)
	scribble(input)
	if !bytes.Equal(content, octets("0a 0b")) || !bytes.Equal(rest, octets("05 00")) {
		t.Errorf("the results became %x, %x", content, rest)
	}
	part := octets("0a 0b")
	encoded := mustEncode(t, api.Universal, false, 4, part)
	scribble(part)
	if !bytes.Equal(encoded, octets("04 02 0a 0b")) {
		t.Errorf("the element became %x", encoded)
	}
}

// P2.1 with rule 5, Next: later changes of a result, and what is appended to it, change neither the input nor the other result.
func TestResultsAreCopies(t *testing.T) {
	for _, text := range []string{"04 02 0a 0b 05 00", "04 00 05 00", "04 02 0a 0b"} {
		input := octets(text)
		header, content, rest, _ := tlv.Next(input)
		wantRest := bytes.Clone(rest)
		_ = append(content, 77, 77, 77)
		scribble(content)
		if !bytes.Equal(input, octets(text)) || !bytes.Equal(rest, wantRest) {
			t.Errorf("%s: the input became %x, the rest %x", text, input, rest)
		}
		_, content, rest, _ = tlv.Next(input)
		wantContent := bytes.Clone(content)
		_ = append(rest, 77, 77, 77)
		scribble(rest)
		if !bytes.Equal(input, octets(text)) || !bytes.Equal(content, wantContent) {
			t.Errorf("%s: the input became %x, the contents octets %x", text, input, content)
		}
		expectNext(t, input, header, wantContent, wantRest, none)
	}
}

// P2.1 with rule 5, Length and Encode: later changes of a result change neither an argument nor a later result.
func TestEncodingsAreNew(t *testing.T) {
	for _, x := range lengths {
		first, _ := tlv.Length(x.n)
		scribble(first)
		expectLength(t, x.n, octets(x.want), api.OK)
	}
	content := octets("0a 0b")
	scribble(mustEncode(t, api.Universal, false, 4, content))
	if !bytes.Equal(content, octets("0a 0b")) {
		t.Errorf("the contents octets became %x", content)
	}
	if b := mustEncode(t, api.Universal, false, 4, content); !bytes.Equal(b, octets("04 02 0a 0b")) {
		t.Errorf("the element became %x", b)
	}
}

// P2.1 with rule 5: neither the arguments nor their unused capacity are modified, and what lies behind an argument is not read.
func TestArgumentsStay(t *testing.T) {
	const text = "04 02 0a 0b 05 00 0c"
	room := octets(text)
	tlv.ReadLength(room[1:3])
	tlv.ReadHeader(room[:2])
	tlv.Next(room[:4])
	tlv.Next(room[:6])
	tlv.Encode(api.Universal, false, 4, room[2:4])
	if !bytes.Equal(room, octets(text)) {
		t.Errorf("the arguments became %x", room)
	}
	expectNext(t, room[:3], api.Header{}, nil, nil, failure(api.ErrShort, 3))
	expectHeader(t, room[:1], api.Header{}, failure(api.ErrShort, 1))
	expectReadLength(t, octets("82 01 00")[:2], 0, 0, failure(api.ErrShort, 2))
}
