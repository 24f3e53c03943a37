package algorithm_test

import (
	"bytes"
	"encoding/hex"
	"fmt"
	"math/rand"
	"slices"
	"strconv"
	"strings"
	"testing"

	"cretula/algorithm"
	"cretula/api"
)

// rsa is the string of an object identifier, and rsaElement its element.
const (
	rsa        = "1.2.840.113549.1.1.11"
	rsaElement = "06 09 2a 86 48 86 f7 0d 01 01 0b"
)

var none = api.Error{}

// octets returns the octets that a text has in hexadecimal digits, with spaces between them.
func octets(text string) []byte {
	b, err := hex.DecodeString(strings.ReplaceAll(text, " ", ""))
	if err != nil {
		panic(err)
	}
	return b
}

func sameAlgorithm(a, b api.Algorithm) bool {
	return a.OID == b.OID && bytes.Equal(a.Params, b.Params)
}

func sameKey(a, b api.Key) bool {
	return sameAlgorithm(a.Algorithm, b.Algorithm) && bytes.Equal(a.Bits.Bytes, b.Bits.Bytes) && a.Bits.Unused == b.Bits.Unused
}

// expectAlgorithm checks that a record is valid, and that the octets are its encoding in both directions.
func expectAlgorithm(t *testing.T, a api.Algorithm, b []byte) {
	t.Helper()
	if !algorithm.Valid(a) {
		t.Errorf("Valid(%v) = false", a)
	}
	if got, code := algorithm.Marshal(a); !bytes.Equal(got, b) || code != api.OK {
		t.Errorf("Marshal(%v) = %x, %v, want %x", a, got, code, b)
	}
	if got, err := algorithm.Parse(b); !sameAlgorithm(got, a) || err != none {
		t.Errorf("Parse(%x) = %v, %v, want %v", b, got, err, a)
	}
}

func expectKey(t *testing.T, k api.Key, b []byte) {
	t.Helper()
	if !algorithm.ValidKey(k) {
		t.Errorf("ValidKey(%v) = false", k)
	}
	if got, code := algorithm.MarshalKey(k); !bytes.Equal(got, b) || code != api.OK {
		t.Errorf("MarshalKey(%v) = %x, %v, want %x", k, got, code, b)
	}
	if got, err := algorithm.ParseKey(b); !sameKey(got, k) || err != none {
		t.Errorf("ParseKey(%x) = %v, %v, want %v", b, got, err, k)
	}
}

// expectInvalid checks that a record is not valid, and has no encoding, nor has a key with it.
func expectInvalid(t *testing.T, a api.Algorithm) {
	t.Helper()
	if algorithm.Valid(a) {
		t.Errorf("Valid(%v) = true", a)
	}
	if got, code := algorithm.Marshal(a); len(got) > 0 || code != api.ErrInvalid {
		t.Errorf("Marshal(%v) = %x, %v", a, got, code)
	}
	expectInvalidKey(t, api.Key{Algorithm: a})
}

func expectInvalidKey(t *testing.T, k api.Key) {
	t.Helper()
	if algorithm.ValidKey(k) {
		t.Errorf("ValidKey(%v) = true", k)
	}
	if got, code := algorithm.MarshalKey(k); len(got) > 0 || code != api.ErrInvalid {
		t.Errorf("MarshalKey(%v) = %x, %v", k, got, code)
	}
}

func isParseError(b []byte, err api.Error) bool {
	return err.Code != api.OK && err.Offset >= 0 && err.Offset <= len(b)
}

// expectNoAlgorithm checks that octets are no encoding of an algorithm identifier.
func expectNoAlgorithm(t *testing.T, b []byte) {
	t.Helper()
	if got, err := algorithm.Parse(b); !isParseError(b, err) || !sameAlgorithm(got, api.Algorithm{}) {
		t.Errorf("Parse(%x) = %v, %v", b, got, err)
	}
}

// expectNoKey checks that octets are no encoding of a public key.
func expectNoKey(t *testing.T, b []byte) {
	t.Helper()
	if got, err := algorithm.ParseKey(b); !isParseError(b, err) || !sameKey(got, api.Key{}) {
		t.Errorf("ParseKey(%x) = %v, %v", b, got, err)
	}
}

// wrap returns the element with an identifier octet whose contents octets are the parts.
func wrap(identifier byte, parts ...[]byte) []byte {
	contents := bytes.Join(parts, nil)
	return slices.Concat([]byte{identifier}, lengthOctets(len(contents)), contents)
}

func lengthOctets(length int) []byte {
	if length < 128 {
		return []byte{byte(length)}
	}
	var digits []byte
	for ; length > 0; length /= 256 {
		digits = append([]byte{byte(length % 256)}, digits...)
	}
	return append([]byte{128 + byte(len(digits))}, digits...)
}

// levels returns the encoding of a tree with so many levels.
func levels(count int) []byte {
	b := octets("05 00")
	for ; count > 1; count-- {
		b = wrap(0x30, b)
	}
	return b
}

// P10.1, the examples of the chapter.
func TestExamples(t *testing.T) {
	expectAlgorithm(t, api.Algorithm{OID: rsa, Params: octets("05 00")}, octets("30 0d 06 09 2a 86 48 86 f7 0d 01 01 0b 05 00"))
	k := api.Key{Algorithm: api.Algorithm{OID: rsa}, Bits: api.Bits{Bytes: octets("a0"), Unused: 5}}
	expectKey(t, k, octets("30 11 30 0b 06 09 2a 86 48 86 f7 0d 01 01 0b 03 02 05 a0"))
}

// P10.1, Valid, Marshal and Parse: algorithm identifiers as certificates have them.
func TestAlgorithms(t *testing.T) {
	pss := "30 34 a0 0f 30 0d 06 09 60 86 48 01 65 03 04 02 01 05 00 a1 1c 30 1a 06 09 2a 86 48 86 f7 0d 01 01 08 30 0d 06 09 60 86 48 01 65 03 04 02 01 05 00 a2 03 02 01 20"
	for _, x := range []struct{ oid, params, want string }{
		{"1.3.101.112", "", "30 05 06 03 2b 65 70"},
		{"1.2.840.10045.4.3.2", "", "30 0a 06 08 2a 86 48 ce 3d 04 03 02"},
		{"1.2.840.10045.2.1", "06 08 2a 86 48 ce 3d 03 01 07", "30 13 06 07 2a 86 48 ce 3d 02 01 06 08 2a 86 48 ce 3d 03 01 07"},
		{"1.2.840.113549.1.1.10", pss, "30 41 06 09 2a 86 48 86 f7 0d 01 01 0a " + pss},
		{"0.0", "", "30 03 06 01 00"},
		{"1.2.3", "05 00", "30 06 06 02 2a 03 05 00"},
		{"1.2.3", "06 01 2a", "30 07 06 02 2a 03 06 01 2a"},
		{"2.999", "30 00", "30 06 06 02 88 37 30 00"},
	} {
		expectAlgorithm(t, api.Algorithm{OID: x.oid, Params: octets(x.params)}, octets(x.want))
	}
}

// P10.1, ValidKey, MarshalKey and ParseKey: public keys as certificates have them, among them one with a curve and one of RFC 8410.
func TestKeys(t *testing.T) {
	point := "04 6b 17 d1 f2 e1 2c 42 47 f8 bc e6 e5 63 a4 40 f2 77 03 7d 81 2d eb 33 a0 f4 a1 39 45 d8 98 c2 96 4f e3 42 e2 fe 1a 7f 9b 8e e7 eb 4a 7c 0f 9e 16 2b ce 33 57 6b 31 5e ce cb b6 40 68 37 bf 51 f5"
	short := "19 bf 44 09 69 84 cd fe 85 41 ba c1 67 dc 3b 96 c8 50 86 aa 30 b6 b6 cb 0c 5c 38 ad 70 31 66 e1"
	for _, x := range []struct {
		oid, params, bits string
		unused            int
		want              string
	}{
		{"1.3.101.112", "", short, 0, "30 2a 30 05 06 03 2b 65 70 03 21 00 " + short},
		{"1.2.840.10045.2.1", "06 08 2a 86 48 ce 3d 03 01 07", point, 0, "30 59 30 13 06 07 2a 86 48 ce 3d 02 01 06 08 2a 86 48 ce 3d 03 01 07 03 42 00 " + point},
		{"1.2.840.113549.1.1.1", "05 00", "30 06 02 01 23 02 01 03", 0, "30 1a 30 0d 06 09 2a 86 48 86 f7 0d 01 01 01 05 00 03 09 00 30 06 02 01 23 02 01 03"},
		{"1.2.4", "", "a0", 5, "30 0a 30 04 06 02 2a 04 03 02 05 a0"},
		{"1.2.4", "", "", 0, "30 09 30 04 06 02 2a 04 03 01 00"},
		{"1.2.4", "03 01 00", "", 0, "30 0c 30 07 06 02 2a 04 03 01 00 03 01 00"},
	} {
		k := api.Key{Algorithm: api.Algorithm{OID: x.oid, Params: octets(x.params)}, Bits: api.Bits{Bytes: octets(x.bits), Unused: x.unused}}
		expectKey(t, k, octets(x.want))
	}
}

// P10.1, Valid, Marshal and Parse: object identifiers at their limits.
func TestOIDs(t *testing.T) {
	for _, x := range []struct{ oid, contents string }{
		{"0.0", "00"},
		{"0.39", "27"},
		{"1.0", "28"},
		{"1.39", "4f"},
		{"2.0", "50"},
		{"2.47", "7f"},
		{"2.48", "81 00"},
		{"2.4294967215", "8f ff ff ff 7f"},
		{"1.2.127", "2a 7f"},
		{"1.2.128", "2a 81 00"},
		{"1.2.0", "2a 00"},
		{"1.2.0.0", "2a 00 00"},
		{"1.2.4294967295", "2a 8f ff ff ff 7f"},
	} {
		for _, params := range []string{"", "05 00"} {
			expectAlgorithm(t, api.Algorithm{OID: x.oid, Params: octets(params)}, wrap(0x30, wrap(0x06, octets(x.contents)), octets(params)))
		}
	}
}

// P10.1, Valid and Marshal: strings of no object identifier.
func TestOtherStrings(t *testing.T) {
	for _, s := range []string{
		"", "1", "2", ".", "..", ".1", "1.", "1.2.", ".1.2", "1..2", "3.1", "1.40", "0.40", "4294967296.1",
		"01.2", "1.02", "1.2.00", "+1.2", "1.+2", "-1.2", "1.-2", "1.2 ", " 1.2", "1. 2", "1,2", "1.2.a", "1.2.0x1", "1.2.1_0", "1.2.٣",
		"2.4294967216", "2.4294967295", "1.2.4294967296", "1.2.18446744073709551616", "1.2\x00", "2a 03",
	} {
		for _, params := range []string{"", "05 00"} {
			expectInvalid(t, api.Algorithm{OID: s, Params: octets(params)})
		}
	}
}

// P10.1, Parse and ParseKey: contents octets of no object identifier.
func TestOtherContentsOfOIDs(t *testing.T) {
	for _, contents := range []string{
		"", "80", "80 01", "80 80 01", "2a 80", "2a 80 01", "2a 80 03 04", "2a 86", "2a 86 c8", "86", "ff",
		"90 80 80 80 00", "2a 90 80 80 80 00", "ff ff ff ff 7f", "2a ff ff ff ff ff ff ff ff ff 7f", "2a 81 80 80 80 80 80 80 80 80 80 00",
	} {
		for _, params := range []string{"", "05 00"} {
			b := wrap(0x30, wrap(0x06, octets(contents)), octets(params))
			expectNoAlgorithm(t, b)
			expectNoKey(t, wrap(0x30, b, octets("03 01 00")))
		}
	}
}

// P10.1, all functions: Params that are empty, nil or the encoding of one tree.
func TestParams(t *testing.T) {
	without := octets("30 04 06 02 2a 03")
	for _, params := range [][]byte{nil, {}, make([]byte, 0, 9)} {
		expectAlgorithm(t, api.Algorithm{OID: "1.2.3", Params: params}, without)
		expectKey(t, api.Key{Algorithm: api.Algorithm{OID: "1.2.3", Params: params}}, wrap(0x30, without, octets("03 01 00")))
	}
	for _, params := range [][]byte{
		octets("05 00"), octets("00 00"), octets("05 01 07"), octets("01 01 01"), octets("02 00"), octets("06 00"), octets("06 01 80"), octets("03 00"), octets("04 02 1f 80"),
		octets("10 01 ff"), octets("30 00"), octets("31 00"), octets("25 00"), octets("a0 00"), octets("80 00"), octets("5e 00"), octets("fe 02 de 00"),
		octets("30 04 05 00 05 00"), octets("31 06 02 01 09 02 01 08"), octets("30 06 30 04 30 02 05 00"), octets("24 04 04 02 1f 80"),
		levels(1), levels(2), levels(15), levels(16), wrap(0x30, levels(15), levels(15)),
	} {
		a := api.Algorithm{OID: "1.2.3", Params: params}
		b := wrap(0x30, octets("06 02 2a 03"), params)
		expectAlgorithm(t, a, b)
		expectKey(t, api.Key{Algorithm: a}, wrap(0x30, b, octets("03 01 00")))
	}
}

// P10.1, all functions: Params that are not empty, and not the encoding of one tree.
func TestOtherParams(t *testing.T) {
	for _, params := range [][]byte{
		octets("05"), octets("00"), octets("30"), octets("80"), octets("1f 00"), octets("3f 00"), octets("9f 01 00"), octets("ff 00"),
		octets("05 00 05 00"), octets("30 00 30 00"), octets("05 00 00"), octets("05 00 05"), octets("05 00 00 00"), octets("02 01 01 02 01 02 02 01 03"),
		octets("05 01"), octets("02 02 01"), octets("05 80"), octets("05 81 00"), octets("04 81 01 00"), octets("04 82 00 01 00"), octets("05 ff"), octets("04 85 00 00 00 00 01 00"),
		octets("30 80 00 00"), octets("30 01 05"), octets("30 02 05 01"), octets("30 03 05 00 05"), octets("30 02 1f 00"), octets("30 03 05 81 00"), octets("30 03 30 02 05"), octets("a0 01 00"), octets("24 01 04"),
		levels(17), levels(18), levels(40), wrap(0x30, levels(1), levels(16)), wrap(0x30, levels(16), octets("05 00")), wrap(0xa3, levels(16)),
	} {
		expectInvalid(t, api.Algorithm{OID: "1.2.3", Params: params})
		b := wrap(0x30, octets("06 02 2a 03"), params)
		expectNoAlgorithm(t, b)
		expectNoKey(t, wrap(0x30, b, octets("03 01 00")))
	}
}

// P10.1, ValidKey, MarshalKey and ParseKey: bit strings with each number of unused bits.
func TestBits(t *testing.T) {
	a, b := api.Algorithm{OID: "1.2.4"}, octets("30 04 06 02 2a 04")
	for _, x := range []struct {
		bits   string
		unused int
	}{
		{"", 0}, {"00", 0}, {"ff", 0}, {"01", 0}, {"fe", 1}, {"02", 1}, {"80", 7}, {"00", 7}, {"00 80", 7}, {"ff 80", 7}, {"ff f0", 4}, {"00 00 00", 3}, {"01 02 03 04", 0}, {"01 02 03 04", 2},
	} {
		bits := api.Bits{Bytes: octets(x.bits), Unused: x.unused}
		expectKey(t, api.Key{Algorithm: a, Bits: bits}, wrap(0x30, b, wrap(0x03, []byte{byte(x.unused)}, octets(x.bits))))
	}
	expectKey(t, api.Key{Algorithm: a, Bits: api.Bits{Bytes: []byte{}}}, octets("30 09 30 04 06 02 2a 04 03 01 00"))
}

// P10.1, ValidKey, MarshalKey and ParseKey: bit strings that are not valid, beside a valid algorithm identifier.
func TestOtherBits(t *testing.T) {
	a, b := api.Algorithm{OID: "1.2.4"}, octets("30 04 06 02 2a 04")
	for _, x := range []struct {
		bits   string
		unused int
	}{
		{"", 1}, {"", 7}, {"", 8}, {"01", 1}, {"ff", 7}, {"40", 7}, {"08", 4}, {"80 01", 1}, {"00", 8}, {"00", 9}, {"00", 255}, {"00 00", 8}, {"00 00", 16},
	} {
		expectInvalidKey(t, api.Key{Algorithm: a, Bits: api.Bits{Bytes: octets(x.bits), Unused: x.unused}})
		expectNoKey(t, wrap(0x30, b, wrap(0x03, []byte{byte(x.unused)}, octets(x.bits))))
	}
	for _, unused := range []int{-1, -8, 256, 1 << 32, -1 << 63} {
		expectInvalidKey(t, api.Key{Algorithm: a, Bits: api.Bits{Unused: unused}})
		expectInvalidKey(t, api.Key{Algorithm: a, Bits: api.Bits{Bytes: []byte{0}, Unused: unused}})
	}
	expectNoKey(t, octets("30 08 30 04 06 02 2a 04 03 00"))
}

// P10.1, ValidKey and MarshalKey: the record without any field set is not valid, nor one with an Algorithm and Bits that both are not valid.
func TestZeroRecords(t *testing.T) {
	expectInvalid(t, api.Algorithm{})
	expectInvalidKey(t, api.Key{})
	expectInvalidKey(t, api.Key{Bits: api.Bits{Unused: 1}})
	expectInvalidKey(t, api.Key{Algorithm: api.Algorithm{OID: "1.2", Params: []byte{5}}, Bits: api.Bits{Bytes: []byte{1}, Unused: 1}})
	expectInvalidKey(t, api.Key{Algorithm: api.Algorithm{Params: octets("05 00")}, Bits: api.Bits{Bytes: []byte{1}}})
}

// P10.1, Parse and ParseKey: no bytes, and the beginning of an element.
func TestNoBytes(t *testing.T) {
	for _, b := range [][]byte{nil, {}, make([]byte, 0, 9), {0x30}, {0x30, 0x80}, {0x30, 0x81}, {0}, {0x1f}} {
		expectNoAlgorithm(t, b)
		expectNoKey(t, b)
	}
}

// P10.1, Parse and ParseKey: each identifier octet of the outer SEQUENCE, of which only one is that of a SEQUENCE.
func TestOuterTags(t *testing.T) {
	for identifier := range 256 {
		if identifier == 0x30 {
			continue
		}
		expectNoAlgorithm(t, wrap(byte(identifier), octets("06 02 2a 03")))
		expectNoAlgorithm(t, wrap(byte(identifier), octets("06 02 2a 03 05 00")))
		expectNoKey(t, wrap(byte(identifier), octets("30 04 06 02 2a 03 03 01 00")))
	}
}

// P10.1, Parse and ParseKey: each identifier octet of each part. Any element may be the Params.
func TestTagsOfParts(t *testing.T) {
	for identifier := range 256 {
		octet := byte(identifier)
		oid, params, bits := octets("06 02 2a 03"), octets("05 00"), octets("03 01 00")
		if octet != 0x06 {
			expectNoAlgorithm(t, wrap(0x30, wrap(octet, oid[2:])))
			expectNoAlgorithm(t, wrap(0x30, wrap(octet, oid[2:]), params))
		}
		if octet != 0x30 {
			expectNoKey(t, wrap(0x30, wrap(octet, oid), bits))
		}
		if octet != 0x03 {
			expectNoKey(t, wrap(0x30, wrap(0x30, oid), wrap(octet, bits[2:])))
		}
		b := wrap(0x30, oid, wrap(octet))
		if octet&0x1f == 0x1f {
			expectNoAlgorithm(t, b)
		} else {
			expectAlgorithm(t, api.Algorithm{OID: "1.2.3", Params: wrap(octet)}, b)
		}
	}
}

// P10.1, Parse and ParseKey: other numbers of parts, and parts in another order.
func TestOtherParts(t *testing.T) {
	oid, params, bits := octets("06 02 2a 03"), octets("05 00"), octets("03 01 00")
	for _, parts := range [][][]byte{
		{}, {params}, {params, oid}, {params, params}, {oid, params, params}, {oid, oid, oid}, {oid, params, oid}, {oid, params, bits}, {params, oid, params},
		{wrap(0x30, oid)}, {wrap(0x30, oid), params}, {bits}, {oid, params, params, params},
	} {
		expectNoAlgorithm(t, wrap(0x30, parts...))
	}
	a, b := wrap(0x30, oid), wrap(0x30, oid, params)
	for _, parts := range [][][]byte{
		{}, {a}, {b}, {bits}, {bits, a}, {a, a}, {bits, bits}, {oid, bits}, {oid, params, bits}, {a, bits, bits}, {a, bits, params}, {a, params, bits}, {params, a, bits}, {a, b, bits}, {b, params, bits}, {wrap(0x30, a, bits)},
		{wrap(0x30, bits), bits}, {wrap(0x30), bits}, {wrap(0x30, a), bits}, {wrap(0x30, oid, params, params), bits}, {a, bits, a, bits},
	} {
		expectNoKey(t, wrap(0x30, parts...))
	}
	expectNoKey(t, a)
	expectNoKey(t, b)
	expectNoAlgorithm(t, wrap(0x30, a, bits))
	expectNoAlgorithm(t, append(bytes.Clone(a), b...))
}

// lengths are those around which the length octets get another form.
var lengths = []int{1, 2, 126, 127, 128, 129, 254, 255, 256, 257, 65535, 65536}

// filling returns the number of contents octets of an element with so many octets in all.
func filling(size int) (int, bool) {
	for header := 2; header <= min(size, 5); header++ {
		if 1+len(lengthOctets(size-header)) == header {
			return size - header, true
		}
	}
	return 0, false
}

// longOID returns the string of an object identifier with so many contents octets, and its element.
func longOID(length int) (string, []byte) {
	return "0.1" + strings.Repeat(".2", length-1), wrap(0x06, []byte{1}, bytes.Repeat([]byte{2}, length-1))
}

// P10.1, all functions: contents octets of the Params, of the OID and of the Bits with these lengths.
func TestLengthsInside(t *testing.T) {
	oid := octets("06 02 2a 03")
	for _, length := range lengths {
		params := wrap(0x04, make([]byte, length))
		expectAlgorithm(t, api.Algorithm{OID: "1.2.3", Params: params}, wrap(0x30, oid, params))
		s, element := longOID(length)
		expectAlgorithm(t, api.Algorithm{OID: s}, wrap(0x30, element))
		expectAlgorithm(t, api.Algorithm{OID: s, Params: params}, wrap(0x30, element, params))
		bits := bytes.Repeat([]byte{0x10}, length-1)
		k := api.Key{Algorithm: api.Algorithm{OID: s, Params: params}, Bits: api.Bits{Bytes: bits}}
		expectKey(t, k, wrap(0x30, wrap(0x30, element, params), wrap(0x03, []byte{0}, bits)))
	}
}

// P10.1, all functions: algorithm identifiers and public keys whose own contents octets have these lengths.
func TestLengthsOutside(t *testing.T) {
	oid := octets("06 02 2a 03")
	tested := 0
	for _, length := range lengths {
		if size, ok := filling(length - len(oid)); ok {
			tested++
			params := wrap(0x04, make([]byte, size))
			b := slices.Concat([]byte{0x30}, lengthOctets(length), oid, params)
			expectAlgorithm(t, api.Algorithm{OID: "1.2.3", Params: params}, b)
			k := api.Key{Algorithm: api.Algorithm{OID: "1.2.3", Params: params}}
			expectKey(t, k, wrap(0x30, b, octets("03 01 00")))
		}
		if size, ok := filling(length - 2 - len(oid)); ok {
			tested++
			bits := make([]byte, size-1)
			b := slices.Concat([]byte{0x30}, lengthOctets(length), wrap(0x30, oid), wrap(0x03, []byte{0}, bits))
			expectKey(t, api.Key{Algorithm: api.Algorithm{OID: "1.2.3"}, Bits: api.Bits{Bytes: bits}}, b)
		}
	}
	if tested != 20 {
		t.Errorf("%d lengths were tested", tested)
	}
}

// lengthened returns the element that b begins with, and what follows it, with other length octets.
func lengthened(b []byte, length ...byte) []byte {
	return slices.Concat(b[:1], length, b[2:])
}

// P10.1, Parse and ParseKey: length octets that are not the shortest ones, or of no length, at each element.
func TestOtherLengthOctets(t *testing.T) {
	oid, params, bits := octets("06 02 2a 03"), octets("04 02 07 02"), octets("03 02 05 a0")
	a := wrap(0x30, oid, params)
	key := wrap(0x30, a, bits)
	expectAlgorithm(t, api.Algorithm{OID: "1.2.3", Params: params}, a)
	expectKey(t, api.Key{Algorithm: api.Algorithm{OID: "1.2.3", Params: params}, Bits: api.Bits{Bytes: octets("a0"), Unused: 5}}, key)
	changes := []func(b []byte) []byte{
		func(b []byte) []byte { return lengthened(b, 0x81, b[1]) },
		func(b []byte) []byte { return lengthened(b, 0x82, 0, b[1]) },
		func(b []byte) []byte { return lengthened(b, 0x84, 0, 0, 0, b[1]) },
		func(b []byte) []byte { return lengthened(b, 0x85, 0, 0, 0, 0, b[1]) },
		func(b []byte) []byte { return lengthened(b, 0x84, 0xff, 0xff, 0xff, 0xff) },
		func(b []byte) []byte { return lengthened(b, 0x88, 0xff, 0xff, 0xff, 0xff, 0xff, 0xff, 0xff, 0xff) },
		func(b []byte) []byte { return lengthened(b, 0xff) },
		func(b []byte) []byte { return append(lengthened(b, 0x80), 0, 0) },
		func(b []byte) []byte { return lengthened(b, b[1]+1) },
		func(b []byte) []byte { return lengthened(b, b[1]-1) },
		func(b []byte) []byte { return append(bytes.Clone(b), 0) },
	}
	for _, change := range changes {
		expectNoAlgorithm(t, change(a))
		expectNoKey(t, change(key))
		expectNoKey(t, wrap(0x30, change(a), bits))
		expectNoKey(t, wrap(0x30, a, change(bits)))
		for _, b := range [][]byte{wrap(0x30, change(oid)), wrap(0x30, change(oid), params), wrap(0x30, oid, change(params))} {
			expectNoAlgorithm(t, b)
			expectNoKey(t, wrap(0x30, b, bits))
		}
	}
}

// P10.1, Parse and ParseKey: the second reading of the definitions, by which the tests below decide what is the encoding of a record.

// take reads the element that b begins with, and returns what follows it. Length octets are read loosely, and must then be those of the length.
func take(b []byte) (identifier byte, contents, rest []byte, ok bool) {
	if len(b) < 2 {
		return 0, nil, nil, false
	}
	length := int(b[1])
	if length > 128 {
		digits := b[2:min(len(b), 2+length-128, 6)]
		length = 0
		for _, digit := range digits {
			length = 256*length + int(digit)
		}
	}
	header := append([]byte{b[0]}, lengthOctets(length)...)
	if b[0]&0x1f == 0x1f || !bytes.HasPrefix(b, header) || len(b)-len(header) < length {
		return 0, nil, nil, false
	}
	b = b[len(header):]
	return header[0], b[:length], b[length:], true
}

// takeAll reads the elements that b consists of.
func takeAll(b []byte) (elements [][]byte, ok bool) {
	for len(b) > 0 {
		_, _, rest, ok := take(b)
		if !ok {
			return nil, false
		}
		elements = append(elements, b[:len(b)-len(rest)])
		b = rest
	}
	return elements, true
}

// takeOnly reads the element with an identifier octet that b consists of.
func takeOnly(b []byte, identifier byte) ([]byte, bool) {
	got, contents, rest, ok := take(b)
	return contents, ok && got == identifier && len(rest) == 0
}

// isTree reports whether b is an element with elements inside up to so many levels.
func isTree(b []byte, levels int) bool {
	elements, ok := takeAll(b)
	if !ok || len(elements) != 1 || levels == 0 {
		return false
	}
	identifier, contents, _, _ := take(b)
	if identifier&0x20 == 0 {
		return true
	}
	elements, ok = takeAll(contents)
	for _, e := range elements {
		ok = ok && isTree(e, levels-1)
	}
	return ok
}

// readOID returns the string of contents octets.
func readOID(c []byte) (string, bool) {
	var text []string
	for len(c) > 0 {
		size := 1 + slices.IndexFunc(c, func(octet byte) bool { return octet < 0x80 })
		if size == 0 || size > 5 || c[0] == 0x80 {
			return "", false
		}
		digits := ""
		for _, octet := range c[:size] {
			digits += fmt.Sprintf("%07b", octet&0x7f)
		}
		number, err := strconv.ParseUint(digits, 2, 32)
		if err != nil {
			return "", false
		}
		if len(text) == 0 {
			root := min(number/40, 2)
			text = append(text, strconv.Itoa(int(root)))
			number -= 40 * root
		}
		text = append(text, strconv.FormatUint(number, 10))
		c = c[size:]
	}
	return strings.Join(text, "."), len(text) > 1
}

// readAlgorithm returns the record that b is the encoding of.
func readAlgorithm(b []byte) (api.Algorithm, bool) {
	inside, ok := takeOnly(b, 0x30)
	parts, whole := takeAll(inside)
	if !ok || !whole || len(parts) < 1 || len(parts) > 2 {
		return api.Algorithm{}, false
	}
	contents, ok := takeOnly(parts[0], 0x06)
	s, isOID := readOID(contents)
	if !ok || !isOID {
		return api.Algorithm{}, false
	}
	if len(parts) == 1 {
		return api.Algorithm{OID: s}, true
	}
	if !isTree(parts[1], 16) {
		return api.Algorithm{}, false
	}
	return api.Algorithm{OID: s, Params: parts[1]}, true
}

// readKey returns the record that b is the encoding of.
func readKey(b []byte) (api.Key, bool) {
	inside, ok := takeOnly(b, 0x30)
	parts, whole := takeAll(inside)
	if !ok || !whole || len(parts) != 2 {
		return api.Key{}, false
	}
	a, ok := readAlgorithm(parts[0])
	c, isBits := takeOnly(parts[1], 0x03)
	if !ok || !isBits || len(c) == 0 || c[0] > 7 || len(c) == 1 && c[0] > 0 || c[len(c)-1]&(1<<c[0]-1) != 0 && len(c) > 1 {
		return api.Key{}, false
	}
	return api.Key{Algorithm: a, Bits: api.Bits{Bytes: c[1:], Unused: int(c[0])}}, true
}

// compare checks Parse and ParseKey of b, and Valid and Marshal of what they return, by the second reading, and reports whether b is an encoding.
func compare(t *testing.T, b []byte) bool {
	t.Helper()
	a, isAlgorithm := readAlgorithm(b)
	if isAlgorithm {
		expectAlgorithm(t, a, b)
	} else {
		expectNoAlgorithm(t, b)
	}
	k, isKey := readKey(b)
	if isKey {
		expectKey(t, k, b)
	} else {
		expectNoKey(t, b)
	}
	return isAlgorithm || isKey
}

// samples are encodings of algorithm identifiers and of public keys.
func samples() [][]byte {
	return [][]byte{
		octets("30 0b " + rsaElement),
		octets("30 0d " + rsaElement + " 05 00"),
		octets("30 0f 06 02 88 37 30 09 02 01 05 a0 04 31 02 05 00"),
		octets("30 06 06 02 2a 03 24 00"),
		octets("30 11 30 0b " + rsaElement + " 03 02 05 a0"),
		octets("30 0b 30 06 06 02 2a 04 05 00 03 01 00"),
		octets("30 0f 30 09 06 02 2a 04 30 03 02 01 03 03 02 07 80"),
		wrap(0x30, wrap(0x30, octets("06 02 2a 03"), wrap(0x04, make([]byte, 128))), wrap(0x03, make([]byte, 130))),
	}
}

// P10.1, Parse and ParseKey: encodings that are cut off at each octet, at both ends, and with bytes behind.
func TestCutOff(t *testing.T) {
	for _, b := range samples() {
		if !compare(t, b) {
			t.Errorf("%x is no encoding", b)
		}
		for i := range b {
			expectNoAlgorithm(t, b[:i])
			expectNoKey(t, b[:i])
			compare(t, b[i+1:])
		}
		for _, behind := range [][]byte{{0}, {5}, {0xff}, {0, 0}, {5, 0}, {3, 1, 0}, b} {
			longer := slices.Concat(b, behind)
			expectNoAlgorithm(t, longer)
			expectNoKey(t, longer)
		}
	}
}

// P10.1, Parse and ParseKey: encodings with one octet replaced by each other one, left out, or inserted.
func TestOneOctetChanged(t *testing.T) {
	for _, b := range samples() {
		accepted := 0
		for i := range b {
			compare(t, slices.Concat(b[:i], b[i+1:]))
			for octet := range 256 {
				compare(t, slices.Concat(b[:i], []byte{byte(octet)}, b[i:]))
				changed := slices.Concat(b[:i], []byte{byte(octet)}, b[i+1:])
				if compare(t, changed) {
					accepted++
				}
			}
		}
		if accepted <= len(b) {
			t.Errorf("of the changes of %x only %d are encodings", b, accepted)
		}
	}
}

// smallSlices returns all slices of up to so many bytes out of an alphabet.
func smallSlices(length int, alphabet ...byte) [][]byte {
	all := [][]byte{nil}
	for from := 0; length > 0; length-- {
		to := len(all)
		for ; from < to; from++ {
			for _, b := range alphabet {
				all = append(all, append(bytes.Clone(all[from]), b))
			}
		}
	}
	return all
}

// P10.1, P10.2 and P10.3, Parse and ParseKey: all short inputs out of a few octets, alone and inside of a SEQUENCE or two.
func TestShortInputs(t *testing.T) {
	for _, b := range smallSlices(5, 0x00, 0x01, 0x02, 0x03, 0x05, 0x06, 0x30, 0x80) {
		compare(t, b)
	}
	accepted := 0
	for _, b := range smallSlices(7, 0x00, 0x01, 0x02, 0x06, 0x30, 0x80) {
		if compare(t, wrap(0x30, b)) {
			accepted++
		}
	}
	for _, b := range smallSlices(5, 0x00, 0x01, 0x02, 0x03, 0x04, 0x06, 0x07, 0x10, 0x80) {
		if compare(t, wrap(0x30, octets("30 03 06 01 2a 03"), b)) {
			accepted++
		}
	}
	if accepted < 500 {
		t.Errorf("only %d of these are encodings", accepted)
	}
}

// randomTree returns the encoding of a tree with at most so many levels.
func randomTree(source *rand.Rand, levels int) []byte {
	identifier := byte(source.Intn(4)<<6 + source.Intn(31))
	if levels == 1 || source.Intn(2) == 0 {
		contents := make([]byte, source.Intn(6)*source.Intn(40))
		source.Read(contents)
		return wrap(identifier, contents)
	}
	var parts [][]byte
	for range source.Intn(4) {
		parts = append(parts, randomTree(source, levels-1))
	}
	return wrap(identifier|0x20, parts...)
}

// randomKey returns a valid public key, and its encoding and that of its algorithm identifier.
func randomKey(source *rand.Rand) (k api.Key, b, inner []byte) {
	contents := []byte{byte(source.Intn(0x80))}
	for range source.Intn(8) {
		contents = append(contents, []byte{byte(source.Intn(0x80)), 0x81 + byte(source.Intn(0x7f))}[source.Intn(2)])
	}
	contents = append(contents, byte(source.Intn(0x80)))
	s, ok := readOID(contents)
	if !ok {
		return randomKey(source)
	}
	k.Algorithm.OID = s
	if source.Intn(3) > 0 {
		k.Algorithm.Params = randomTree(source, 1+source.Intn(6))
	}
	k.Bits.Bytes = make([]byte, source.Intn(5)*source.Intn(80))
	source.Read(k.Bits.Bytes)
	if last := len(k.Bits.Bytes) - 1; last >= 0 {
		k.Bits.Unused = source.Intn(8)
		k.Bits.Bytes[last] &= 0xff << k.Bits.Unused
	}
	inner = wrap(0x30, wrap(0x06, contents), k.Algorithm.Params)
	return k, wrap(0x30, inner, wrap(0x03, []byte{byte(k.Bits.Unused)}, k.Bits.Bytes)), inner
}

// P10.2, Parse inverts Marshal and Marshal inverts Parse: random records of any shape, and their encodings with some octets changed.
func TestRandomRecords(t *testing.T) {
	source := rand.New(rand.NewSource(10))
	for range 3000 {
		k, b, inner := randomKey(source)
		expectKey(t, k, b)
		expectAlgorithm(t, k.Algorithm, inner)
		for range 10 {
			changed := bytes.Clone(b)
			for range 1 + source.Intn(3) {
				changed[source.Intn(len(changed))] = byte(source.Intn(256))
			}
			compare(t, changed)
		}
	}
}

// smallAlgorithms returns different valid algorithm identifiers.
func smallAlgorithms() []api.Algorithm {
	var all []api.Algorithm
	for _, s := range []string{"0.0", "0.1", "1.0", "2.0", "2.5", "2.48", "0.0.0", "0.0.1", "0.0.5", "0.0.5.0", "1.2.128", "1.2.129", "1.2.1.0", "2.5.29.15"} {
		for _, params := range []string{"", "00 00", "05 00", "25 00", "04 00", "04 01 00", "04 01 05", "04 02 05 00", "24 02 05 00", "30 00", "30 02 05 00", "30 04 05 00 05 00", "06 01 00", "06 00"} {
			all = append(all, api.Algorithm{OID: s, Params: octets(params)})
		}
	}
	return all
}

// smallKeys returns different valid public keys.
func smallKeys() []api.Key {
	var all []api.Key
	for _, a := range smallAlgorithms() {
		for _, bits := range []api.Bits{{}, {Bytes: []byte{0}}, {Bytes: []byte{0}, Unused: 1}, {Bytes: []byte{0}, Unused: 7}, {Bytes: []byte{0x80}}, {Bytes: []byte{0x80}, Unused: 7}, {Bytes: []byte{0, 0}}, {Bytes: []byte{3, 1, 0}}} {
			all = append(all, api.Key{Algorithm: a, Bits: bits})
		}
	}
	return all
}

// expectDifferent checks that no encoding is equal to another one, or a proper prefix of another one.
func expectDifferent(t *testing.T, encodings [][]byte) {
	t.Helper()
	// In this order all encodings that begin with another one come directly behind it.
	slices.SortFunc(encodings, bytes.Compare)
	for i := 1; i < len(encodings); i++ {
		if bytes.HasPrefix(encodings[i], encodings[i-1]) {
			t.Errorf("the encoding %x begins with the encoding %x", encodings[i], encodings[i-1])
		}
	}
}

// P10.2 and P10.3, Marshal and MarshalKey: different records have different encodings, of which none is a proper prefix of another one.
func TestEncodingsDiffer(t *testing.T) {
	var encodings [][]byte
	for _, a := range smallAlgorithms() {
		b, code := algorithm.Marshal(a)
		got, err := algorithm.Parse(b)
		if code != api.OK || err != none || !sameAlgorithm(got, a) {
			t.Errorf("%v has the encoding %x, %v, which is parsed as %v, %v", a, b, code, got, err)
		}
		encodings = append(encodings, b)
	}
	expectDifferent(t, encodings)
	encodings = nil
	for _, k := range smallKeys() {
		b, code := algorithm.MarshalKey(k)
		got, err := algorithm.ParseKey(b)
		if code != api.OK || err != none || !sameKey(got, k) {
			t.Errorf("%v has the encoding %x, %v, which is parsed as %v, %v", k, b, code, got, err)
		}
		encodings = append(encodings, b)
	}
	expectDifferent(t, encodings)
}

// P10.2 and P10.3, all functions: no beginning of the encoding of a random record is one of a record, nor is it the encoding of another random record.
func TestBeginnings(t *testing.T) {
	source := rand.New(rand.NewSource(11))
	for range 300 {
		k, b, inner := randomKey(source)
		for i := range b {
			expectNoKey(t, b[:i])
		}
		for i := range inner {
			expectNoAlgorithm(t, inner[:i])
		}
		other, _, _ := randomKey(source)
		got, _ := algorithm.MarshalKey(other)
		if bytes.HasPrefix(got, b) != sameKey(k, other) {
			t.Errorf("%v and %v have the encodings %x and %x", k, other, b, got)
		}
	}
}

// scribble overwrites a slice and its unused capacity.
func scribble(b []byte) {
	all := b[:cap(b)]
	for i := range all {
		all[i] = 99
	}
}

// P10.1 with rule 5, Parse and ParseKey: neither the bytes nor their unused capacity are modified, and later changes of them do not change the record, nor does a change of another result.
func TestBytesStay(t *testing.T) {
	want := api.Key{Algorithm: api.Algorithm{OID: "1.2.4", Params: octets("05 00")}, Bits: api.Bits{Bytes: octets("a0"), Unused: 5}}
	room := octets("30 0c 30 06 06 02 2a 04 05 00 03 02 05 a0 77 77 77")
	before := bytes.Clone(room)
	k, err := algorithm.ParseKey(room[:14])
	a, errOfInner := algorithm.Parse(room[2:10])
	algorithm.ParseKey(room[:13])
	algorithm.ParseKey(room[:15])
	algorithm.Parse(room[2:9])
	algorithm.Parse(room[2:12])
	if !bytes.Equal(room, before) || err != none || errOfInner != none {
		t.Errorf("the bytes became %x, with %v and %v", room, err, errOfInner)
	}
	other, _ := algorithm.ParseKey(room[:14])
	scribble(other.Bits.Bytes)
	scribble(other.Algorithm.Params)
	if !bytes.Equal(room, before) {
		t.Errorf("the bytes became %x by a change of the record", room)
	}
	scribble(room)
	if !sameKey(k, want) || !sameAlgorithm(a, want.Algorithm) {
		t.Errorf("the records became %v and %v", k, a)
	}
	scribble(a.Params)
	if scribble(k.Algorithm.Params); !bytes.Equal(k.Bits.Bytes, want.Bits.Bytes) || k.Algorithm.OID != "1.2.4" {
		t.Errorf("the record became %v by a change of its Params", k)
	}
}

// P10.1 with rule 5, Marshal, MarshalKey, Valid and ValidKey: neither the record nor any unused capacity are modified, and later changes of it do not change the encoding, nor does a change of another result.
func TestRecordsStay(t *testing.T) {
	params, bits := octets("05 00 77 77 77"), octets("a0 77 77 77")
	k := api.Key{Algorithm: api.Algorithm{OID: "1.2.4", Params: params[:2]}, Bits: api.Bits{Bytes: bits[:1], Unused: 5}}
	algorithm.Valid(k.Algorithm)
	algorithm.ValidKey(k)
	b, _ := algorithm.MarshalKey(k)
	inner, _ := algorithm.Marshal(k.Algorithm)
	other, _ := algorithm.MarshalKey(k)
	otherInner, _ := algorithm.Marshal(k.Algorithm)
	_ = append(other, 77, 77, 77)
	scribble(other)
	scribble(otherInner)
	if !bytes.Equal(params, octets("05 00 77 77 77")) || !bytes.Equal(bits, octets("a0 77 77 77")) || len(k.Algorithm.Params) != 2 || len(k.Bits.Bytes) != 1 {
		t.Errorf("the record became %v, with %x and %x", k, params, bits)
	}
	scribble(params)
	scribble(bits)
	if !bytes.Equal(b, octets("30 0c 30 06 06 02 2a 04 05 00 03 02 05 a0")) || !bytes.Equal(inner, octets("30 06 06 02 2a 04 05 00")) {
		t.Errorf("the encodings became %x and %x", b, inner)
	}
}
