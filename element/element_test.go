package element_test

import (
	"bytes"
	"encoding/hex"
	"fmt"
	"math"
	"math/rand"
	"slices"
	"sort"
	"strings"
	"testing"

	"cretula/api"
	"cretula/element"
	"cretula/tlv"
)

var none = api.Error{}

func failure(code api.Code, offset int) api.Error { return api.Error{Code: code, Offset: offset} }

// octets returns the octets that a text has in hexadecimal digits, with spaces between them.
func octets(text string) []byte {
	b, err := hex.DecodeString(strings.ReplaceAll(text, " ", ""))
	if err != nil {
		panic(err)
	}
	return b
}

func expectOne(t *testing.T, b []byte, want api.Element, wantErr api.Error) {
	t.Helper()
	if got, err := element.One(b); got != want || err != wantErr {
		t.Errorf("One(%x) = %v, %v, want %v, %v", b, got, err, want, wantErr)
	}
}

func expectList(t *testing.T, b []byte, from, to int, want []api.Element, wantErr api.Error) {
	t.Helper()
	if got, err := element.List(b, from, to); !slices.Equal(got, want) || err != wantErr {
		t.Errorf("List(%x, %d, %d) = %v, %v, want %v, %v", b, from, to, got, err, want, wantErr)
	}
}

func expectParts(t *testing.T, b []byte, class, number int, want []api.Element, wantErr api.Error) {
	t.Helper()
	if got, err := element.Parts(b, class, number); !slices.Equal(got, want) || err != wantErr {
		t.Errorf("Parts(%x, %d, %d) = %v, %v, want %v, %v", b, class, number, got, err, want, wantErr)
	}
}

func expectWrap(t *testing.T, class int, constructed bool, number int, parts [][]byte, want []byte, wantCode api.Code) {
	t.Helper()
	if got, code := element.Wrap(class, constructed, number, parts...); !bytes.Equal(got, want) || code != wantCode {
		t.Errorf("Wrap(%d, %v, %d, %x) = %x, %v, want %x, %v", class, constructed, number, parts, got, code, want, wantCode)
	}
}

func expectOrdered(t *testing.T, parts [][]byte, want bool) {
	t.Helper()
	if got := element.Ordered(parts); got != want {
		t.Errorf("Ordered(%x) = %v", parts, got)
	}
}

func expectSorted(t *testing.T, parts, want [][]byte) {
	t.Helper()
	if got := element.Sorted(parts); !slices.EqualFunc(got, want, bytes.Equal) {
		t.Errorf("Sorted(%x) = %x, want %x", parts, got, want)
	}
}

func expectTags(t *testing.T, l []api.Element, want string) {
	t.Helper()
	if got := element.Tags(l); got != want {
		t.Errorf("Tags(%v) = %q, want %q", l, got, want)
	}
}

func mustWrap(t *testing.T, class int, constructed bool, number int, parts ...[]byte) []byte {
	t.Helper()
	b, code := element.Wrap(class, constructed, number, parts...)
	if code != api.OK {
		t.Fatalf("Wrap(%d, %v, %d, %d parts) returns the code %v", class, constructed, number, len(parts), code)
	}
	return b
}

func mustList(t *testing.T, b []byte, from, to int) []api.Element {
	t.Helper()
	l, err := element.List(b, from, to)
	if err != none {
		t.Fatalf("List of %d bytes from %d to %d returns the error %v", len(b), from, to, err)
	}
	return l
}

// P9.1, the examples of the chapter.
func TestExamples(t *testing.T) {
	want := []api.Element{{Number: 2, Start: 0, Body: 2, End: 3}, {Number: 5, Start: 3, Body: 5, End: 5}}
	expectList(t, octets("02 01 05 05 00"), 0, 5, want, none)
	expectTags(t, want, "02 05")
	if b, code := element.Sequence(octets("02 01 05")); !bytes.Equal(b, octets("30 03 02 01 05")) || code != api.OK {
		t.Errorf("the SEQUENCE is %x, %v", b, code)
	}
}

// P9.1, One: tags and offsets, whatever the contents octets are.
func TestOne(t *testing.T) {
	for _, x := range []struct {
		b    string
		want api.Element
	}{
		{"05 00", api.Element{Number: 5, Body: 2, End: 2}},
		{"00 00", api.Element{Body: 2, End: 2}},
		{"01 01 ff", api.Element{Number: 1, Body: 2, End: 3}},
		{"30 00", api.Element{Number: 16, Constructed: true, Body: 2, End: 2}},
		{"31 02 05 00", api.Element{Number: 17, Constructed: true, Body: 2, End: 4}},
		{"31 02 1f 80", api.Element{Number: 17, Constructed: true, Body: 2, End: 4}},
		{"10 02 05 00", api.Element{Number: 16, Body: 2, End: 4}},
		{"5e 01 00", api.Element{Class: 1, Number: 30, Body: 2, End: 3}},
		{"a0 03 02 01 02", api.Element{Class: 2, Constructed: true, Body: 2, End: 5}},
		{"a1 02 01 01", api.Element{Class: 2, Number: 1, Constructed: true, Body: 2, End: 4}},
		{"fe 01 1f", api.Element{Class: 3, Number: 30, Constructed: true, Body: 2, End: 3}},
	} {
		expectOne(t, octets(x.b), x.want, none)
	}
}

// P9.1, One: lengths whose length octets have different forms. Each element is cut off at each octet (of long contents octets at some), and has bytes behind it.
func TestOneOfAnyLength(t *testing.T) {
	for _, x := range []struct{ length, body int }{{0, 2}, {1, 2}, {127, 2}, {128, 3}, {255, 3}, {256, 4}, {65535, 4}, {65536, 5}} {
		b := append(mustWrap(t, api.Context, true, 7, make([]byte, x.length)), 0x04, 0x01, 0x00)
		end := x.body + x.length
		expectOne(t, b[:end], api.Element{Class: 2, Number: 7, Constructed: true, Body: x.body, End: end}, none)
		for behind := 1; behind <= 3; behind++ {
			expectOne(t, b[:end+behind], api.Element{}, failure(api.ErrTrailing, end))
		}
		for cut := 0; cut < end; cut += max(1, x.length/300) {
			expectOne(t, b[:cut], api.Element{}, failure(api.ErrShort, cut))
		}
		expectOne(t, b[:end-1], api.Element{}, failure(api.ErrShort, end-1))
	}
}

// P9.1, One: no bytes, and bytes behind the element, whatever they are.
func TestOneOfOtherCounts(t *testing.T) {
	for _, empty := range [][]byte{nil, {}, []byte{5, 0}[:0]} {
		expectOne(t, empty, api.Element{}, failure(api.ErrShort, 0))
	}
	for _, x := range []struct {
		b   string
		end int
	}{
		{"05 00", 2}, {"02 01 05", 3}, {"30 03 02 01 05", 5}, {"04 81 80" + strings.Repeat("00", 128), 131},
	} {
		for _, behind := range []string{"00", "05 00", "1f", "80", "ff ff", "04 05 00"} {
			expectOne(t, append(octets(x.b), octets(behind)...), api.Element{}, failure(api.ErrTrailing, x.end))
		}
	}
}

// wrongElements has the errors that tlv.Next has where at least one octet is there. The ones that are too short are not to be followed by other octets.
var wrongElements = []struct {
	b    string
	want api.Error
}{
	{"1f", failure(api.ErrTag, 0)},
	{"1f 00", failure(api.ErrTag, 0)},
	{"3f 80", failure(api.ErrTag, 0)},
	{"5f 01 00", failure(api.ErrTag, 0)},
	{"bf 22 00", failure(api.ErrTag, 0)},
	{"ff", failure(api.ErrTag, 0)},
	{"04 80", failure(api.ErrLength, 1)},
	{"30 80 00 00", failure(api.ErrLength, 1)},
	{"04 85", failure(api.ErrLength, 1)},
	{"04 85 01 00 00 00 00", failure(api.ErrLength, 1)},
	{"04 ff", failure(api.ErrLength, 1)},
	{"04 81 00", failure(api.ErrLength, 1)},
	{"04 81 7f", failure(api.ErrLength, 1)},
	{"04 82 00 80", failure(api.ErrLength, 1)},
	{"04 83 00 01 00", failure(api.ErrLength, 1)},
	{"04 84 00 01 00 00", failure(api.ErrLength, 1)},
	{"04 84 80 00 00 00", failure(api.ErrLength, 1)},
	{"04 84 ff ff ff ff", failure(api.ErrLength, 1)},
	{"04", failure(api.ErrShort, 1)},
	{"30", failure(api.ErrShort, 1)},
	{"04 81", failure(api.ErrShort, 2)},
	{"04 82 01", failure(api.ErrShort, 3)},
	{"04 84 7f ff ff", failure(api.ErrShort, 5)},
	{"04 01", failure(api.ErrShort, 2)},
	{"04 02 00", failure(api.ErrShort, 3)},
	{"30 03 02 01", failure(api.ErrShort, 4)},
	{"04 81 80 00", failure(api.ErrShort, 4)},
	{"04 84 7f ff ff ff 00", failure(api.ErrShort, 7)},
}

// P9.1, One: each error of tlv.Next, which is named ahead of the one for bytes behind the element.
func TestOneErrors(t *testing.T) {
	for _, x := range wrongElements {
		b := octets(x.b)
		expectOne(t, b, api.Element{}, x.want)
		if x.want.Code != api.ErrShort {
			expectOne(t, append(b, 0x05, 0x00, 0xff), api.Element{}, x.want)
		}
	}
}

// P9.1, List and Parts: each error of tlv.Next for an element behind others, with its offset into all bytes, whatever lies ahead of from and behind to.
func TestErrorsBehindOthers(t *testing.T) {
	for _, x := range wrongElements {
		for _, ahead := range []string{"", "05 00", "05 00 02 01 05", "30 02 1f 80 04 00 01 01 ff", "04 81 80" + strings.Repeat("ee", 128)} {
			part := append(octets(ahead), octets(x.b)...)
			start := len(octets(ahead))
			expectList(t, part, 0, len(part), nil, failure(x.want.Code, start+x.want.Offset))
			for _, outside := range []string{"ff", "05 00 1f", "04 7f"} {
				from := len(octets(outside))
				b := slices.Concat(octets(outside), part, make([]byte, 200))
				expectList(t, b, from, from+len(part), nil, failure(x.want.Code, from+start+x.want.Offset))
			}
			whole := mustWrap(t, api.Context, true, 3, part)
			body := len(whole) - len(part)
			expectParts(t, whole, api.Context, 3, nil, failure(x.want.Code, body+start+x.want.Offset))
		}
	}
}

// P9.1, List: the bytes from from up to to alone are looked at.
func TestListWithin(t *testing.T) {
	b := octets("09 02 01 05 30 02 05 00 1f")
	integer := api.Element{Number: 2, Start: 1, Body: 3, End: 4}
	sequence := api.Element{Number: 16, Constructed: true, Start: 4, Body: 6, End: 8}
	null := api.Element{Number: 5, Start: 6, Body: 8, End: 8}
	for _, x := range []struct {
		from, to int
		want     []api.Element
		wantErr  api.Error
	}{
		{1, 8, []api.Element{integer, sequence}, none},
		{1, 4, []api.Element{integer}, none},
		{4, 8, []api.Element{sequence}, none},
		{6, 8, []api.Element{null}, none},
		{1, 9, nil, failure(api.ErrTag, 8)},
		{8, 9, nil, failure(api.ErrTag, 8)},
		{1, 7, nil, failure(api.ErrShort, 7)},
		{1, 6, nil, failure(api.ErrShort, 6)},
		{1, 5, nil, failure(api.ErrShort, 5)},
		{1, 3, nil, failure(api.ErrShort, 3)},
		{1, 2, nil, failure(api.ErrShort, 2)},
		{0, 9, nil, failure(api.ErrTag, 8)},
		{0, 4, []api.Element{{Number: 9, Start: 0, Body: 2, End: 4}}, none},
	} {
		expectList(t, b, x.from, x.to, x.want, x.wantErr)
	}
}

// P9.1, List: elements that would end behind to, but not behind the bytes, among them the last one of several.
func TestListEndsInsideAnElement(t *testing.T) {
	for _, n := range []int{1, 2, 127, 128, 300} {
		wrapped := mustWrap(t, api.Universal, false, api.TagOctetString, make([]byte, n))
		for _, ahead := range []string{"", "05 00", "02 01 05 30 00"} {
			b := slices.Concat(octets(ahead), wrapped, octets("05 00"))
			start := len(octets(ahead))
			for to := start + 1; to < start+len(wrapped); to++ {
				expectList(t, b, 0, to, nil, failure(api.ErrShort, to))
				expectList(t, b, start, to, nil, failure(api.ErrShort, to))
			}
		}
	}
}

// P9.1, List: offsets that are equal have no elements between them, also inside an element.
func TestListOfNothing(t *testing.T) {
	for _, text := range []string{"", "05 00", "02 01 05 05 00", "1f ff 80 80"} {
		b := octets(text)
		for at := range len(b) + 1 {
			expectList(t, b, at, at, nil, none)
		}
	}
	expectList(t, nil, 0, 0, nil, none)
	expectList(t, octets("05 00")[:0], 0, 0, nil, none)
}

// P9.1, List: offsets outside the bytes, or the other way around, whatever the bytes are.
func TestListOutside(t *testing.T) {
	for _, text := range []string{"", "05 00", "02 01 05 05 00", "1f", "04 80", "04 7f 00"} {
		b := octets(text)
		n := len(b)
		offsets := []int{math.MinInt, math.MinInt + 1, math.MinInt32, -n - 1, -n, -2, -1, 0, 1, n - 1, n, n + 1, n + 2, 2 * n, math.MaxInt32, 1 << 32, 1<<32 + n, math.MaxInt - 1, math.MaxInt}
		for _, from := range offsets {
			for _, to := range offsets {
				if from < 0 || to < from || n < to {
					expectList(t, b, from, to, nil, failure(api.ErrRange, 0))
				}
			}
		}
	}
}

// P9.1, List: the capacity behind the bytes does not belong to them.
func TestListIgnoresCapacity(t *testing.T) {
	room := octets("05 00 04 01 ff 05 00")
	expectList(t, room[:4], 0, 4, nil, failure(api.ErrShort, 4))
	expectList(t, room[:4], 0, 5, nil, failure(api.ErrRange, 0))
	expectList(t, room[:5], 2, 5, []api.Element{{Number: 4, Start: 2, Body: 4, End: 5}}, none)
	expectOne(t, room[:1], api.Element{}, failure(api.ErrShort, 1))
	expectOne(t, room[2:4], api.Element{}, failure(api.ErrShort, 2))
}

// P9.1, Parts: the elements in a constructed one with any tag, with offsets into the bytes.
func TestParts(t *testing.T) {
	for _, x := range []struct {
		b             string
		class, number int
		want          []api.Element
	}{
		{"30 00", 0, 16, nil},
		{"a0 00", 2, 0, nil},
		{"30 04 05 00 02 00", 0, 16, []api.Element{{Number: 5, Start: 2, Body: 4, End: 4}, {Number: 2, Start: 4, Body: 6, End: 6}}},
		{"31 03 02 01 05", 0, 17, []api.Element{{Number: 2, Start: 2, Body: 4, End: 5}}},
		{"a3 03 02 01 05", 2, 3, []api.Element{{Number: 2, Start: 2, Body: 4, End: 5}}},
		{"60 02 7e 00", 1, 0, []api.Element{{Class: 1, Number: 30, Constructed: true, Start: 2, Body: 4, End: 4}}},
		{"fe 03 c0 01 ff", 3, 30, []api.Element{{Class: 3, Start: 2, Body: 4, End: 5}}},
		{"20 02 00 00", 0, 0, []api.Element{{Start: 2, Body: 4, End: 4}}},
		{"30 04 30 02 1f 80", 0, 16, []api.Element{{Number: 16, Constructed: true, Start: 2, Body: 4, End: 6}}},
	} {
		expectParts(t, octets(x.b), x.class, x.number, x.want, none)
	}
	inside := mustWrap(t, api.Universal, false, 4, make([]byte, 256))
	around := mustWrap(t, api.Context, true, 9, octets("05 00"), inside)
	want := []api.Element{{Number: 5, Start: 4, Body: 6, End: 6}, {Number: 4, Start: 6, Body: 10, End: 266}}
	expectParts(t, around, api.Context, 9, want, none)
}

// outsideNumbers are those that no class and no number of a tag is, some of which look like one in their lowest bits.
var outsideNumbers = []int{-1, -2, -16, -31, -32, -256, 31, 32, 48, 64, 255, 256, 256 + 16, 1 << 32, 1<<32 + 16, math.MinInt, math.MinInt + 16, math.MaxInt}

// P9.1, Parts: another class, another number, the primitive form, and classes and numbers that no element has. What the contents octets are does not matter then.
func TestPartsOfAnotherTag(t *testing.T) {
	wrong := failure(api.ErrTag, 0)
	for _, content := range []string{"", "05 00", "1f", "04 80", "04 01", "80 81"} {
		sequence := mustWrap(t, api.Universal, true, 16, octets(content))
		primitive := mustWrap(t, api.Universal, false, 16, octets(content))
		for class := range 4 {
			expectParts(t, primitive, class, 16, nil, wrong)
			for number := range 31 {
				if class != 0 || number != 16 {
					expectParts(t, sequence, class, number, nil, wrong)
				}
			}
		}
		for _, outside := range outsideNumbers {
			expectParts(t, sequence, outside, 16, nil, wrong)
			expectParts(t, sequence, outside, outside, nil, wrong)
			expectParts(t, sequence, 0, outside, nil, wrong)
			expectParts(t, primitive, 0, outside, nil, wrong)
		}
		expectParts(t, sequence, 4, 16, nil, wrong)
	}
}

// P9.1, Parts: the errors of One come first, whatever tag is asked for, and that of the tag ahead of those of the contents octets.
func TestPartsErrors(t *testing.T) {
	for _, x := range wrongElements {
		expectParts(t, octets(x.b), 0, 4, nil, x.want)
		expectParts(t, octets(x.b), -1, 31, nil, x.want)
	}
	for _, x := range []struct {
		b    string
		want api.Error
	}{
		{"", failure(api.ErrShort, 0)},
		{"30 02 05", failure(api.ErrShort, 3)},
		{"30 00 00", failure(api.ErrTrailing, 2)},
		{"31 00 00", failure(api.ErrTrailing, 2)},
		{"30 01 1f 05", failure(api.ErrTrailing, 3)},
		{"31 01 1f", failure(api.ErrTag, 0)},
		{"30 01 1f", failure(api.ErrTag, 2)},
		{"30 01 05", failure(api.ErrShort, 3)},
		{"30 02 05 80", failure(api.ErrLength, 3)},
		{"30 04 05 00 04 01", failure(api.ErrShort, 6)},
	} {
		expectParts(t, octets(x.b), 0, 16, nil, x.want)
	}
	expectParts(t, nil, 0, 16, nil, failure(api.ErrShort, 0))
}

// listed is a second reading of List, by tlv.Next, for offsets that are not outside.
func listed(b []byte, from, to int) ([]api.Element, api.Error) {
	var l []api.Element
	for rest := b[from:to]; len(rest) > 0; {
		start := to - len(rest)
		header, content, behind, err := tlv.Next(rest)
		if err != none {
			return nil, failure(err.Code, start+err.Offset)
		}
		body := start + header.Size
		l = append(l, api.Element{
			Class: header.Class, Number: header.Number, Constructed: header.Constructed,
			Start: start, Body: body, End: body + len(content),
		})
		rest = behind
	}
	return l, none
}

// alone is a second reading of One, by tlv.Next.
func alone(b []byte) (api.Element, api.Error) {
	header, content, behind, err := tlv.Next(b)
	end := header.Size + len(content)
	if err == none && len(behind) > 0 {
		err = failure(api.ErrTrailing, end)
	}
	if err != none {
		return api.Element{}, err
	}
	return api.Element{Class: header.Class, Number: header.Number, Constructed: header.Constructed, Body: header.Size, End: end}, none
}

// smallSlices returns all slices of at most length bytes out of an alphabet.
func smallSlices(length int, alphabet ...byte) [][]byte {
	all := [][]byte{nil}
	for from := 0; length > 0; length-- {
		to := len(all)
		for ; from < to; from++ {
			for _, b := range alphabet {
				all = append(all, append(bytes.Clone(all[from]), b))
			}
		}
	}
	return all
}

// P9.1, One, List and Parts: all short inputs out of a few octets, with all offsets, compared with the second reading.
func TestShortInputs(t *testing.T) {
	for _, b := range smallSlices(6, 0x00, 0x01, 0x02, 0x30, 0x81, 0x1f) {
		want, wantErr := alone(b)
		expectOne(t, b, want, wantErr)
		checkParts(t, b, want, wantErr)
		for to := range len(b) + 1 {
			for from := range to + 1 {
				l, err := listed(b, from, to)
				expectList(t, b, from, to, l, err)
			}
		}
		if t.Failed() {
			return
		}
	}
}

// checkParts compares Parts for the tag SEQUENCE with the second reading, for which One gives an element and an error.
func checkParts(t *testing.T, b []byte, e api.Element, err api.Error) {
	t.Helper()
	var parts []api.Element
	switch {
	case err != none:
	case b[0] != 0x30:
		err = failure(api.ErrTag, 0)
	default:
		parts, err = listed(b, e.Body, e.End)
	}
	expectParts(t, b, api.Universal, api.TagSequence, parts, err)
}

// P9.1, One: the tag that each identifier octet says.
func TestOneOfEachTag(t *testing.T) {
	for x := range 256 {
		want, wantErr := alone([]byte{byte(x), 1, 0xff})
		expectOne(t, []byte{byte(x), 1, 0xff}, want, wantErr)
		if wantErr == none {
			expectTags(t, []api.Element{want}, fmt.Sprintf("%02x", x))
		}
	}
}

// allTags returns an element for each permitted tag.
func allTags() []api.Element {
	var all []api.Element
	for class := range 4 {
		for number := range 31 {
			all = append(all, api.Element{Class: class, Number: number}, api.Element{Class: class, Number: number, Constructed: true})
		}
	}
	return all
}

// P9.1, Is: each tag is itself and no other one, wherever the element lies.
func TestIs(t *testing.T) {
	for i, e := range allTags() {
		e.Start, e.Body, e.End = i, i+2, i+5
		for j, x := range allTags() {
			if got := element.Is(e, x.Class, x.Constructed, x.Number); got != (i == j) {
				t.Fatalf("Is(%v, %d, %v, %d) = %v", e, x.Class, x.Constructed, x.Number, got)
			}
		}
	}
}

// P9.1, Is: classes and numbers outside their ranges, which no element with a permitted tag has, and which the fields of others may have.
func TestIsOutside(t *testing.T) {
	for _, outside := range outsideNumbers {
		for _, e := range allTags() {
			if element.Is(e, outside, e.Constructed, e.Number) || element.Is(e, e.Class, e.Constructed, outside) {
				t.Errorf("%v has the class or the number %d", e, outside)
			}
		}
		for _, constructed := range []bool{false, true} {
			e := api.Element{Class: outside, Number: outside, Constructed: constructed}
			if !element.Is(e, outside, constructed, outside) || element.Is(e, outside, !constructed, outside) {
				t.Errorf("%v does not have its own tag, or another one", e)
			}
			for _, other := range outsideNumbers {
				if other != outside && (element.Is(e, other, constructed, outside) || element.Is(e, outside, constructed, other)) {
					t.Errorf("%v has the class or the number %d", e, other)
				}
			}
		}
	}
}

// P9.1, Wrap: parts are put one after the other, and nil and empty ones add nothing. They need not be elements.
func TestWrap(t *testing.T) {
	for _, x := range []struct {
		class       int
		constructed bool
		number      int
		parts       [][]byte
		want        string
	}{
		{0, true, 16, nil, "30 00"},
		{0, true, 16, [][]byte{}, "30 00"},
		{0, true, 16, [][]byte{nil}, "30 00"},
		{0, true, 16, [][]byte{{}, nil, {}}, "30 00"},
		{0, false, 0, nil, "00 00"},
		{0, false, 2, [][]byte{{5}}, "02 01 05"},
		{0, false, 4, [][]byte{{1}, nil, {2, 3}, {}, {4}}, "04 04 01 02 03 04"},
		{2, true, 3, [][]byte{{5, 0}, nil, {2, 1, 7}}, "a3 05 05 00 02 01 07"},
		{2, true, 3, [][]byte{{2, 1, 7}, {5, 0}}, "a3 05 02 01 07 05 00"},
		{2, false, 3, [][]byte{{5, 0}, {5, 0}}, "83 04 05 00 05 00"},
		{1, true, 30, [][]byte{{0x1f}, {0x80}}, "7e 02 1f 80"},
		{3, true, 30, [][]byte{{0}}, "fe 01 00"},
	} {
		expectWrap(t, x.class, x.constructed, x.number, x.parts, octets(x.want), api.OK)
	}
	if b, code := element.Wrap(api.Context, true, 1); !bytes.Equal(b, octets("a1 00")) || code != api.OK {
		t.Errorf("the element of no parts is %x, %v", b, code)
	}
}

// P9.1, Sequence: with no parts, empty ones, and several.
func TestSequence(t *testing.T) {
	expect := func(want string, parts ...[]byte) {
		t.Helper()
		if b, code := element.Sequence(parts...); !bytes.Equal(b, octets(want)) || code != api.OK {
			t.Errorf("Sequence(%x) = %x, %v, want %s", parts, b, code, want)
		}
	}
	expect("30 00")
	expect("30 00", nil)
	expect("30 00", []byte{}, nil)
	expect("30 02 05 00", octets("05 00"))
	expect("30 05 05 00 02 01 05", octets("05 00"), nil, octets("02 01 05"))
	expect("30 05 02 01 05 05 00", octets("02 01 05"), octets("05 00"), []byte{})
	expect("30 01 1f", octets("1f"))
}

// P9.1, Wrap and Sequence: contents octets around the lengths where the length octets change, in one part or in several.
func TestWrapLengths(t *testing.T) {
	source := rand.New(rand.NewSource(9))
	for _, x := range []struct {
		n    int
		head string
	}{
		{126, "7e"}, {127, "7f"}, {128, "81 80"}, {129, "81 81"}, {254, "81 fe"}, {255, "81 ff"}, {256, "82 01 00"}, {257, "82 01 01"},
		{65535, "82 ff ff"}, {65536, "83 01 00 00"}, {1 << 24, "84 01 00 00 00"},
	} {
		content := make([]byte, x.n)
		source.Read(content)
		want := slices.Concat([]byte{0x30}, octets(x.head), content)
		for _, cut := range []int{0, 1, x.n / 2, x.n - 1, x.n} {
			b, code := element.Sequence(content[:cut], nil, content[cut:])
			if code != api.OK || !bytes.Equal(b, want) {
				t.Errorf("the SEQUENCE of %d and %d octets has %d octets, %v", cut, x.n-cut, len(b), code)
			}
		}
		want[0] = 0x84
		if b, code := element.Wrap(api.Context, false, 4, content); code != api.OK || !bytes.Equal(b, want) {
			t.Errorf("the element of %d octets has %d octets, %v", x.n, len(b), code)
		}
	}
}

// P9.1, Wrap: each permitted tag, in its identifier octet.
func TestWrapTags(t *testing.T) {
	for _, e := range allTags() {
		octet := byte(e.Class*64 + e.Number)
		if e.Constructed {
			octet += 32
		}
		expectWrap(t, e.Class, e.Constructed, e.Number, [][]byte{{7}, {8, 9}}, []byte{octet, 3, 7, 8, 9}, api.OK)
	}
}

// P9.1, Wrap: classes and numbers outside their ranges.
func TestWrapOutside(t *testing.T) {
	for _, parts := range [][][]byte{nil, {nil}, {{5, 0}}, {{5, 0}, {2, 1, 5}}} {
		for _, constructed := range []bool{false, true} {
			expectWrap(t, 4, constructed, 3, parts, nil, api.ErrRange)
			for _, outside := range outsideNumbers {
				expectWrap(t, outside, constructed, 16, parts, nil, api.ErrRange)
				expectWrap(t, outside, constructed, outside, parts, nil, api.ErrRange)
				for class := range 4 {
					expectWrap(t, class, constructed, outside, parts, nil, api.ErrRange)
				}
			}
		}
	}
}

// P9.1, Wrap and Sequence: parts that are longer than MaxLength together, although none is alone. They are refused before anything is built.
func TestWrapTooLong(t *testing.T) {
	part := make([]byte, 1<<20)
	for _, count := range []int{1 << 11, 1<<11 + 1, 1 << 12, 1<<12 + 1, 1 << 16} {
		parts := slices.Repeat([][]byte{part}, count)
		if b, code := element.Wrap(api.Universal, false, 4, parts...); len(b) != 0 || code != api.ErrRange {
			t.Errorf("Wrap of %d parts returns %d octets, %v", count, len(b), code)
		}
		if b, code := element.Sequence(parts...); len(b) != 0 || code != api.ErrRange {
			t.Errorf("Sequence of %d parts returns %d octets, %v", count, len(b), code)
		}
	}
	parts := append(slices.Repeat([][]byte{part}, 1<<11-1), part[1:], part[:2])
	if b, code := element.Wrap(api.Universal, false, 4, parts...); len(b) != 0 || code != api.ErrRange {
		t.Errorf("Wrap of MaxLength + 1 octets returns %d octets, %v", len(b), code)
	}
}

// P9.1, Ordered: parts ascend strictly, and a part comes before a longer one that begins with it.
func TestOrdered(t *testing.T) {
	for _, x := range []struct {
		parts [][]byte
		want  bool
	}{
		{nil, true},
		{[][]byte{}, true},
		{[][]byte{nil}, true},
		{[][]byte{{}}, true},
		{[][]byte{{1}}, true},
		{[][]byte{{1}, {1}}, false},
		{[][]byte{{1}, {2}}, true},
		{[][]byte{{2}, {1}}, false},
		{[][]byte{{1}, {1, 0}}, true},
		{[][]byte{{1, 0}, {1}}, false},
		{[][]byte{{1, 0}, {1, 0}}, false},
		{[][]byte{{1, 9}, {2}}, true},
		{[][]byte{{2}, {1, 9}}, false},
		{[][]byte{{0x7f}, {0x80}}, true},
		{[][]byte{{0x80}, {0x7f}}, false},
		{[][]byte{nil, {0}}, true},
		{[][]byte{{}, {0}}, true},
		{[][]byte{{0}, nil}, false},
		{[][]byte{{0}, {}}, false},
		{[][]byte{nil, nil}, false},
		{[][]byte{nil, {}}, false},
		{[][]byte{{}, nil}, false},
		{[][]byte{{}, {}}, false},
		{[][]byte{nil, {0}, {0, 0}, {0, 1}, {1}, {0xff}, {0xff, 0}}, true},
		{[][]byte{{1}, {2}, {2}}, false},
		{[][]byte{{1}, {1}, {2}}, false},
		{[][]byte{{1}, {3}, {2}}, false},
		{[][]byte{{2}, {1}, {3}}, false},
		{[][]byte{{1}, {2}, {1}}, false},
	} {
		expectOrdered(t, x.parts, x.want)
	}
}

// P9.1, Ordered: in a long list of parts, one in the wrong place is found wherever it is.
func TestOrderedEverywhere(t *testing.T) {
	var parts [][]byte
	for i := range 100 {
		parts = append(parts, []byte{byte(i * 2), 1})
	}
	expectOrdered(t, parts, true)
	for i := 1; i < len(parts); i++ {
		kept := parts[i]
		for _, wrong := range [][]byte{parts[i-1], parts[i-1][:1], {byte(i*2 - 2), 0}, nil} {
			parts[i] = wrong
			expectOrdered(t, parts, false)
		}
		parts[i] = []byte{byte(i*2 - 1)}
		expectOrdered(t, parts, true)
		parts[i] = kept
	}
}

// different is a second reading of Sorted: strings of bytes are ordered as the slices are.
func different(parts [][]byte) [][]byte {
	found := map[string]bool{}
	for _, part := range parts {
		found[string(part)] = true
	}
	var texts []string
	for text := range found {
		texts = append(texts, text)
	}
	sort.Strings(texts)
	var sorted [][]byte
	for _, text := range texts {
		sorted = append(sorted, []byte(text))
	}
	return sorted
}

// selections calls a function with all lists of at most length parts out of a few, with repetitions and in every order.
func selections(length int, out [][]byte, visit func(parts [][]byte)) {
	var extend func(parts [][]byte)
	extend = func(parts [][]byte) {
		visit(slices.Clone(parts))
		if len(parts) == length {
			return
		}
		for _, part := range out {
			extend(append(slices.Clone(parts), part))
		}
	}
	extend(nil)
}

// P9.1 and P9.3, Sorted and Ordered: all short lists of a few parts, among them empty ones and nil, compared with the second reading.
func TestShortLists(t *testing.T) {
	selections(5, [][]byte{nil, {}, {0}, {0, 0}, {1}, {0x80}}, func(parts [][]byte) {
		want := different(parts)
		expectSorted(t, parts, want)
		expectOrdered(t, parts, slices.EqualFunc(parts, want, bytes.Equal))
		expectOrdered(t, element.Sorted(parts), true)
	})
	selections(4, [][]byte{octets("02 01 03"), octets("02 01 09"), {2}, octets("05 00"), {}, octets("02 02 00 80")}, func(parts [][]byte) {
		expectSorted(t, parts, different(parts))
		expectOrdered(t, element.Sorted(parts), true)
	})
}

// P9.3: many parts, shuffled and repeated, have the same Sorted ones, which are Ordered, and sorted again are the same.
func TestSortedOfManyParts(t *testing.T) {
	source := rand.New(rand.NewSource(4))
	for _, count := range []int{0, 1, 2, 3, 12, 13, 50, 500} {
		var parts [][]byte
		for range count {
			part := make([]byte, source.Intn(6))
			for i := range part {
				part[i] = []byte{0, 1, 0x7f, 0x80, 0xff}[source.Intn(5)]
			}
			parts = append(parts, part)
		}
		want := element.Sorted(parts)
		expectOrdered(t, want, true)
		expectSorted(t, parts, different(parts))
		expectSorted(t, want, want)
		for range 20 {
			again := slices.Clone(parts)
			for range count {
				again = append(again, parts[source.Intn(len(parts))])
			}
			source.Shuffle(len(again), func(i, j int) { again[i], again[j] = again[j], again[i] })
			expectSorted(t, again, want)
		}
	}
}

// P9.1, Tags: no element, several, and those whose tag is not permitted.
func TestTags(t *testing.T) {
	expectTags(t, nil, "")
	expectTags(t, []api.Element{}, "")
	expectTags(t, []api.Element{{}}, "00")
	expectTags(t, []api.Element{{}, {Number: 10}, {Number: 15, Class: 3, Constructed: true}}, "00 0a ef")
	expectTags(t, []api.Element{{Class: 2, Number: 30, Constructed: true}, {Number: 31}, {Class: -1}}, "be ?? ??")
	expectTags(t, []api.Element{{Number: 31}}, "??")
	expectTags(t, []api.Element{{Number: 31}, {Number: 16, Constructed: true}, {Class: 4}}, "?? 30 ??")
	var want []string
	for _, e := range allTags() {
		octet := e.Class<<6 | e.Number
		if e.Constructed {
			octet |= 0x20
		}
		want = append(want, fmt.Sprintf("%02x", octet))
	}
	expectTags(t, allTags(), strings.Join(want, " "))
	for _, outside := range outsideNumbers {
		for _, constructed := range []bool{false, true} {
			expectTags(t, []api.Element{{Class: outside, Number: 16, Constructed: constructed}}, "??")
			expectTags(t, []api.Element{{Class: 2, Number: outside, Constructed: constructed}, {Number: 1}}, "?? 01")
		}
	}
}

// P9.1, Tags: where an element lies does not matter, even if it can't lie there.
func TestTagsOfAnyPlace(t *testing.T) {
	for _, x := range [][3]int{{0, 0, 0}, {7, 9, 12}, {-1, -5, -9}, {5, 3, 1}, {math.MaxInt, math.MinInt, math.MaxInt}} {
		e := api.Element{Number: 16, Constructed: true, Start: x[0], Body: x[1], End: x[2]}
		expectTags(t, []api.Element{e, e}, "30 30")
		if !element.Is(e, 0, true, 16) || element.Is(e, 0, false, 16) {
			t.Errorf("Is is wrong for %v", e)
		}
	}
}

// randomElement returns an element with any permitted tag.
func randomElement(t *testing.T, source *rand.Rand) []byte {
	t.Helper()
	lengths := []int{0, 1, 2, 3, 10, 126, 127, 128, 129, 255, 256, 300}
	content := make([]byte, lengths[source.Intn(len(lengths))])
	source.Read(content)
	return mustWrap(t, source.Intn(4), source.Intn(2) == 1, source.Intn(31), content)
}

// checkCovers checks P9.2 for the elements of List.
func checkCovers(t *testing.T, b []byte, from, to int, l []api.Element) {
	t.Helper()
	at := from
	for _, e := range l {
		if e.Start != at || e.Body < e.Start+2 || e.End < e.Body || e.End > to {
			t.Fatalf("%v of %x does not begin at %d", e, b, at)
		}
		at = e.End
		want := e
		want.Start, want.Body, want.End = 0, e.Body-e.Start, e.End-e.Start
		expectOne(t, b[e.Start:e.End], want, none)
	}
	if at != to {
		t.Fatalf("the elements of %x end at %d, not %d", b, at, to)
	}
}

// P9.2: elements that were put one after the other, with other bytes around them, are found again, also by Parts.
func TestListCovers(t *testing.T) {
	source := rand.New(rand.NewSource(5))
	for range 2000 {
		var parts [][]byte
		for range source.Intn(8) {
			parts = append(parts, randomElement(t, source))
		}
		outside := make([]byte, source.Intn(5))
		source.Read(outside)
		inside := slices.Concat(parts...)
		b := slices.Concat(outside, inside, outside)
		from, to := len(outside), len(outside)+len(inside)
		l := mustList(t, b, from, to)
		checkCovers(t, b, from, to, l)
		expectSameOctets(t, b, l, parts)
		whole := mustWrap(t, api.Application, true, 5, parts...)
		l, err := element.Parts(whole, api.Application, 5)
		if err != none {
			t.Fatalf("Parts(%x) returns the error %v", whole, err)
		}
		checkCovers(t, whole, len(whole)-len(inside), len(whole), l)
		expectSameOctets(t, whole, l, parts)
	}
}

func expectSameOctets(t *testing.T, b []byte, l []api.Element, parts [][]byte) {
	t.Helper()
	if len(l) != len(parts) {
		t.Fatalf("%d elements are found in %x, want %d", len(l), b, len(parts))
	}
	for i, e := range l {
		if !bytes.Equal(b[e.Start:e.End], parts[i]) {
			t.Fatalf("the element %d in %x is %x, want %x", i, b, b[e.Start:e.End], parts[i])
		}
	}
}

// P9.2: whatever bytes List accepts, its elements cover them.
func TestListOfAnyBytesCovers(t *testing.T) {
	accepted := 0
	for _, b := range smallSlices(7, 0x00, 0x01, 0x04, 0x30, 0x81) {
		if l, err := element.List(b, 0, len(b)); err == none {
			checkCovers(t, b, 0, len(b), l)
			accepted++
		}
	}
	if accepted < 1000 {
		t.Errorf("only %d inputs are lists", accepted)
	}
}

// P1 and P9.2: a list of many elements, for which nothing may be copied for each of them.
func TestLongList(t *testing.T) {
	b := bytes.Repeat(octets("05 00 02 01 07"), 300000)
	l := mustList(t, b, 0, len(b))
	if len(l) != 600000 || l[599999] != (api.Element{Number: 2, Start: len(b) - 3, Body: len(b) - 1, End: len(b)}) {
		t.Fatalf("%d elements are found, the last one is %v", len(l), l[len(l)-1])
	}
	at := 0
	for _, e := range l {
		if e.Start != at {
			t.Fatalf("%v does not begin at %d", e, at)
		}
		at = e.End
	}
	if text := element.Tags(l); len(text) != 3*len(l)-1 || text != strings.TrimSpace(strings.Repeat("05 02 ", 300000)) {
		t.Errorf("the tags have %d letters", len(text))
	}
}

// scribble overwrites a slice and its unused capacity.
func scribble(b []byte) {
	all := b[:cap(b)]
	for i := range all {
		all[i] = 99
	}
}

// P9.1 with rule 5, One, List and Parts: neither the bytes nor their unused capacity are modified, and later changes of a result change no other one.
func TestBytesStay(t *testing.T) {
	const text = "30 05 05 00 02 01 07 04 02 01"
	room := octets(text)
	element.One(room[:7])
	element.One(room[:8])
	first, _ := element.Parts(room[:7], api.Universal, api.TagSequence)
	second := mustList(t, room[:7], 2, 7)
	want := slices.Clone(second)
	_ = append(first, api.Element{Number: 99})
	for i := range first[:cap(first)] {
		first[:cap(first)][i] = api.Element{Number: 99}
	}
	element.List(room[:9], 7, 9)
	if !bytes.Equal(room, octets(text)) {
		t.Errorf("the bytes became %x", room)
	}
	if !slices.Equal(second, want) {
		t.Errorf("the other list became %v", second)
	}
	expectParts(t, room[:7], api.Universal, api.TagSequence, want, none)
}

// P9.1 with rule 5, Wrap and Sequence: the element shares no memory with the parts, nor with another element, and the capacity behind the parts stays.
func TestElementsAreNew(t *testing.T) {
	room := octets("05 00 02 01 07 63 63 63")
	parts := [][]byte{room[:2], room[2:5], nil}
	for _, wrap := range []func(parts ...[]byte) ([]byte, api.Code){
		element.Sequence,
		func(parts ...[]byte) ([]byte, api.Code) { return element.Wrap(api.Universal, true, 16, parts...) },
	} {
		for count, want := range []string{"30 00", "30 02 05 00", "30 05 05 00 02 01 07", "30 05 05 00 02 01 07"} {
			changed, _ := wrap(parts[:count]...)
			kept, _ := wrap(parts[:count]...)
			_ = append(changed, 77, 77, 77)
			scribble(changed)
			if !bytes.Equal(kept, octets(want)) {
				t.Errorf("the other element became %x, want %s", kept, want)
			}
		}
	}
	if !bytes.Equal(room, octets("05 00 02 01 07 63 63 63")) || len(parts[0]) != 2 || len(parts[1]) != 3 || parts[2] != nil {
		t.Errorf("the parts became %x, with %x", parts, room)
	}
	kept, _ := element.Sequence(parts[0])
	scribble(parts[0])
	if !bytes.Equal(kept, octets("30 02 05 00")) {
		t.Errorf("the element became %x", kept)
	}
}

// P9.1 with rule 5, Sorted and Ordered: neither the list nor the parts nor any unused capacity are modified.
func TestPartsStay(t *testing.T) {
	room := octets("09 08 07 06 05 04")
	parts := [][]byte{room[:2], room[2:3], room[:2], room[3:5], nil, room[1:2], room[5:6]}
	want := slices.Clone(parts)
	element.Sorted(parts[:6])
	element.Ordered(parts[:6])
	element.Sorted(parts)
	for i, part := range parts {
		if len(part) != len(want[i]) || cap(part) != cap(want[i]) || len(part) > 0 && &part[0] != &want[i][0] {
			t.Errorf("the part %d became %x, want %x", i, part, want[i])
		}
	}
	if !bytes.Equal(room, octets("09 08 07 06 05 04")) {
		t.Errorf("the octets became %x", room)
	}
}

// P9.1 with rule 5, Sorted: the parts are copies, of which none shares memory with an argument, with another one, or with another result.
func TestSortedAreCopies(t *testing.T) {
	room := octets("05 06 07 08 05 06 01 02")
	parts := [][]byte{room[4:6], room[:2], room[2:4], room[6:8], room[:0]}
	want := [][]byte{{}, {1, 2}, {5, 6}, {7, 8}}
	for i := range want {
		sorted, other := element.Sorted(parts), element.Sorted(parts)
		_ = append(sorted[i], 77, 77, 77)
		scribble(sorted[i])
		for j := range want {
			if j != i && !bytes.Equal(sorted[j], want[j]) {
				t.Errorf("the part %d became %x by a change of the part %d", j, sorted[j], i)
			}
		}
		_ = append(sorted[:0], nil, nil, nil)
		if !slices.EqualFunc(other, want, bytes.Equal) {
			t.Errorf("the other result became %x", other)
		}
		expectSorted(t, parts, want)
	}
	kept := element.Sorted(parts)
	scribble(room)
	if !slices.EqualFunc(kept, want, bytes.Equal) {
		t.Errorf("the result became %x by a change of the argument", kept)
	}
	ordered := element.Sorted([][]byte{{1}, {2}})
	again := element.Sorted(ordered)
	scribble(ordered[0])
	if !slices.EqualFunc(again, [][]byte{{1}, {2}}, bytes.Equal) {
		t.Errorf("the parts sorted again became %x", again)
	}
}
