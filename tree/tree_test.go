package tree_test

import (
	"bytes"
	"encoding/hex"
	"math"
	"math/rand"
	"slices"
	"strings"
	"testing"

	"cretula/api"
	"cretula/tlv"
	"cretula/tree"
)

var none = api.Error{}

func failure(code api.Code, offset int) api.Error { return api.Error{Code: code, Offset: offset} }

// octets returns the octets that a text has in hexadecimal digits, with spaces between them.
func octets(text string) []byte {
	b, err := hex.DecodeString(strings.ReplaceAll(text, " ", ""))
	if err != nil {
		panic(err)
	}
	return b
}

// leaf returns a primitive node of the universal class.
func leaf(number int, content ...byte) api.Node {
	return api.Node{Number: number, Content: content}
}

// sequence returns a SEQUENCE of nodes.
func sequence(kids ...api.Node) api.Node {
	return api.Node{Number: api.TagSequence, Constructed: true, Kids: kids}
}

// chain returns a tree of the depth, which has a single node on each level, and the inner node on the lowest.
func chain(depth int, inner api.Node) api.Node {
	for range depth - 1 {
		inner = sequence(inner)
	}
	return inner
}

// wrapped returns an element that lies in as many SEQUENCEs as around says.
func wrapped(around int, element []byte) []byte {
	for range around {
		element, _ = tlv.Encode(api.Universal, true, api.TagSequence, element)
	}
	return element
}

// same reports whether trees are equal, where nil and empty slices are.
func same(a, b api.Node) bool {
	return a.Class == b.Class && a.Number == b.Number && a.Constructed == b.Constructed &&
		bytes.Equal(a.Content, b.Content) && slices.EqualFunc(a.Kids, b.Kids, same)
}

func isZero(n api.Node) bool { return same(n, api.Node{}) }

func expectParse(t *testing.T, b []byte, want api.Node, wantErr api.Error) {
	t.Helper()
	if n, err := tree.Parse(b); !same(n, want) || err != wantErr {
		t.Errorf("Parse(%x) = %v, %v, want %v, %v", b, n, err, want, wantErr)
	}
}

func expectEncode(t *testing.T, n api.Node, want []byte, wantCode api.Code) {
	t.Helper()
	if b, code := tree.Encode(n); !bytes.Equal(b, want) || code != wantCode {
		t.Errorf("Encode(%v) = %x, %v, want %x, %v", n, b, code, want, wantCode)
	}
}

// expectTree checks that a tree and octets belong together in both directions.
func expectTree(t *testing.T, n api.Node, b []byte) {
	t.Helper()
	if !tree.Valid(n) {
		t.Errorf("%v is not valid", n)
	}
	expectParse(t, b, n, none)
	expectEncode(t, n, b, api.OK)
}

// expectInvalid checks that a tree is not valid, and that none around it is.
func expectInvalid(t *testing.T, n api.Node) {
	t.Helper()
	for _, x := range []api.Node{n, sequence(n), sequence(leaf(5), n), sequence(n, leaf(5)), sequence(sequence(leaf(5)), sequence(sequence(n)))} {
		if tree.Valid(x) {
			t.Errorf("%v is valid", x)
		}
		expectEncode(t, x, nil, api.ErrInvalid)
	}
}

func expectFind(t *testing.T, b []byte, path []int, want api.Range, wantErr api.Error) {
	t.Helper()
	if r, err := tree.Find(b, path); r != want || err != wantErr {
		t.Errorf("Find(%x, %v) = %v, %v, want %v, %v", b, path, r, err, want, wantErr)
	}
}

// expectNoTree checks the error of Parse, which Find has too, wherever its path leads.
func expectNoTree(t *testing.T, b []byte, want api.Error) {
	t.Helper()
	expectParse(t, b, api.Node{}, want)
	for _, path := range [][]int{nil, {0}, {1, 0}, {-1}, {99}} {
		expectFind(t, b, path, api.Range{}, want)
	}
}

// P3.1, the examples of the chapter.
func TestExamples(t *testing.T) {
	expectNoTree(t, octets("30 06 02 01 05 31 01 00"), failure(api.ErrShort, 8))
	b := octets("30 05 02 01 05 31 00")
	n := sequence(leaf(api.TagInteger, 5), api.Node{Number: api.TagSet, Constructed: true})
	expectTree(t, n, b)
	if tree.Depth(n) != 2 || tree.Count(n) != 3 {
		t.Errorf("the depth is %d, the number of nodes %d", tree.Depth(n), tree.Count(n))
	}
	expectFind(t, b, []int{1}, api.Range{From: 5, To: 7}, none)
}

// P3.1, Depth and Count: valid trees, and others, of which neither the classes nor the contents octets count.
func TestDepthAndCount(t *testing.T) {
	for _, x := range []struct {
		n            api.Node
		depth, count int
	}{
		{api.Node{}, 1, 1},
		{leaf(5), 1, 1},
		{leaf(4, 1, 2, 3), 1, 1},
		{sequence(), 1, 1},
		{api.Node{Constructed: true, Kids: []api.Node{}}, 1, 1},
		{sequence(leaf(5)), 2, 2},
		{sequence(leaf(5), leaf(5), leaf(5)), 2, 4},
		{sequence(sequence(), sequence()), 2, 3},
		{sequence(sequence(sequence(leaf(5))), leaf(5)), 4, 5},
		{sequence(leaf(5), sequence(sequence(leaf(5)))), 4, 5},
		{sequence(sequence(leaf(5), leaf(5)), leaf(5), sequence(sequence(), leaf(5), leaf(5))), 3, 9},
		{chain(16, leaf(5)), 16, 16},
		{chain(17, leaf(5)), 17, 17},
		// No valid trees.
		{api.Node{Class: -1, Number: 99, Content: []byte{1}}, 1, 1},
		{api.Node{Kids: []api.Node{{}, {}}}, 2, 3},
		{api.Node{Kids: []api.Node{{Kids: []api.Node{{}}}}}, 3, 3},
		{api.Node{Constructed: true, Content: []byte{0x30, 2, 5, 0}, Kids: []api.Node{{}}}, 2, 2},
		{api.Node{Constructed: true, Content: []byte{0x30, 2, 5, 0}}, 1, 1},
		{chain(1000, api.Node{Class: 7, Kids: []api.Node{{}, {}}}), 1001, 1002},
		{chain(1<<16, leaf(5)), 1 << 16, 1 << 16},
		{sequence(make([]api.Node, 100000)...), 2, 100001},
	} {
		if depth, count := tree.Depth(x.n), tree.Count(x.n); depth != x.depth || count != x.count {
			t.Errorf("the depth is %d, the number of nodes %d, want %d, %d", depth, count, x.depth, x.count)
		}
	}
}

// P3.1, Valid, Encode and Parse: every tag that is permitted.
func TestEveryTag(t *testing.T) {
	for class := range 4 {
		for number := range 31 {
			primitive := api.Node{Class: class, Number: number, Content: []byte{7}}
			expectTree(t, primitive, []byte{byte(class<<6 | number), 1, 7})
			constructed := api.Node{Class: class, Number: number, Constructed: true, Kids: []api.Node{primitive}}
			expectTree(t, constructed, []byte{byte(class<<6 | 0x20 | number), 3, byte(class<<6 | number), 1, 7})
		}
	}
}

// P3.1, Valid and Encode: classes and numbers that are not permitted, on every level.
func TestTagsOutside(t *testing.T) {
	for _, constructed := range []bool{false, true} {
		for _, class := range []int{-1, -4, 4, 5, 7, 256, math.MinInt, math.MaxInt} {
			expectInvalid(t, api.Node{Class: class, Constructed: constructed})
			expectInvalid(t, api.Node{Class: class, Number: 2, Constructed: constructed})
		}
		for _, number := range []int{-1, -32, 31, 32, 33, 255, 256, math.MinInt, math.MaxInt} {
			for class := range 4 {
				expectInvalid(t, api.Node{Class: class, Number: number, Constructed: constructed})
			}
		}
	}
}

// P3.1, Valid and Encode: a primitive node with Kids, a constructed one with Content, and one with both.
func TestMixedNodes(t *testing.T) {
	kids := []api.Node{leaf(5)}
	content := octets("05 00")
	expectInvalid(t, api.Node{Number: 4, Kids: kids})
	expectInvalid(t, api.Node{Number: 4, Kids: []api.Node{{}}})
	expectInvalid(t, api.Node{Number: 4, Kids: kids, Content: content})
	expectInvalid(t, api.Node{Number: 16, Constructed: true, Content: content})
	expectInvalid(t, api.Node{Number: 16, Constructed: true, Content: []byte{0}})
	expectInvalid(t, api.Node{Number: 16, Constructed: true, Content: content, Kids: kids})
	// Empty slices are none.
	expectTree(t, api.Node{Number: 4, Content: []byte{}, Kids: []api.Node{}}, octets("04 00"))
	expectTree(t, api.Node{Number: 16, Constructed: true, Content: []byte{}, Kids: []api.Node{}}, octets("30 00"))
}

// P3.1: trees with their encodings.
func TestTrees(t *testing.T) {
	for _, x := range []struct {
		n api.Node
		b string
	}{
		{api.Node{}, "00 00"},
		{leaf(5), "05 00"},
		{leaf(1, 0xff), "01 01 ff"},
		// Contents octets of a primitive element are taken as they are.
		{leaf(4, 0x30, 0x05, 0x1f), "04 03 30 05 1f"},
		{leaf(2), "02 00"},
		{leaf(5, 1, 2), "05 02 01 02"},
		{leaf(16, 0x80), "10 01 80"},
		{sequence(), "30 00"},
		{api.Node{Class: api.Private, Number: 30, Constructed: true}, "fe 00"},
		{api.Node{Constructed: true, Number: 4}, "24 00"},
		{sequence(leaf(5), leaf(5)), "30 04 05 00 05 00"},
		{sequence(sequence(), sequence(sequence()), leaf(0)), "30 08 30 00 30 02 30 00 00 00"},
		{api.Node{Class: api.Context, Constructed: true, Kids: []api.Node{{Class: api.Context, Number: 1, Content: []byte{0xa0}}}}, "a0 03 81 01 a0"},
		// Elements in a SET stay where they are, whatever their order is.
		{api.Node{Number: api.TagSet, Constructed: true, Kids: []api.Node{leaf(5), leaf(2, 1), leaf(2, 1)}}, "31 08 05 00 02 01 01 02 01 01"},
	} {
		expectTree(t, x.n, octets(x.b))
	}
}

// P3.1 and P3.2: contents octets around the lengths at which the length octets change, in primitive and in constructed elements.
func TestLengths(t *testing.T) {
	for _, length := range []int{0, 1, 2, 126, 127, 128, 129, 254, 255, 256, 257, 258, 65535, 65536, 70000, 1 << 20} {
		content := bytes.Repeat([]byte{0x30}, length)
		b, _ := tlv.Encode(api.Context, false, 3, content)
		n := api.Node{Class: api.Context, Number: 3, Content: content}
		expectTree(t, n, b)
		expectTree(t, chain(3, n), wrapped(2, b))
		expectTree(t, sequence(leaf(5), n, leaf(5)), wrapped(1, slices.Concat(octets("05 00"), b, octets("05 00"))))
		expectFind(t, wrapped(2, b), []int{0, 0}, api.Range{From: len(wrapped(2, b)) - len(b), To: len(wrapped(2, b))}, none)
		if length%2 == 0 {
			kids := make([]api.Node, length/2)
			expectTree(t, sequence(kids...), wrapped(1, make([]byte, length)))
		}
	}
}

// wrongTrees are octets that are no encoding of a tree, with the error.
var wrongTrees = []struct {
	b    string
	want api.Error
}{
	{"", failure(api.ErrShort, 0)},
	// The errors of headers, outermost.
	{"30", failure(api.ErrShort, 1)},
	{"1f", failure(api.ErrTag, 0)},
	{"ff 00", failure(api.ErrTag, 0)},
	{"05 80", failure(api.ErrLength, 1)},
	{"05 81", failure(api.ErrShort, 2)},
	{"05 81 00", failure(api.ErrLength, 1)},
	{"30 82 00 80", failure(api.ErrLength, 1)},
	{"30 85 00 00 00 00 00", failure(api.ErrLength, 1)},
	// Contents octets that do not fit into the input.
	{"05 01", failure(api.ErrShort, 2)},
	{"30 01", failure(api.ErrShort, 2)},
	{"04 03 01 02", failure(api.ErrShort, 4)},
	{"30 03 05 00", failure(api.ErrShort, 4)},
	{"30 84 7f ff ff ff 05 00", failure(api.ErrShort, 8)},
	// The errors of headers inside, of which the bytes end where the element around them does.
	{"30 01 05", failure(api.ErrShort, 3)},
	{"30 01 05 00", failure(api.ErrShort, 3)},
	{"30 02 04 81 80", failure(api.ErrShort, 4)},
	{"30 03 04 82 01 00", failure(api.ErrShort, 5)},
	{"30 03 05 00 05", failure(api.ErrShort, 5)},
	{"30 02 1f 00", failure(api.ErrTag, 2)},
	{"30 04 05 00 1f 00", failure(api.ErrTag, 4)},
	{"30 02 05 80", failure(api.ErrLength, 3)},
	{"30 03 05 81 00", failure(api.ErrLength, 3)},
	{"30 06 05 00 31 02 05 ff", failure(api.ErrLength, 7)},
	// Contents octets that do not fit into the element around them, whether or not bytes follow it.
	{"30 02 05 01", failure(api.ErrShort, 4)},
	{"30 02 05 01 00", failure(api.ErrShort, 4)},
	{"30 02 30 02 05 00", failure(api.ErrShort, 4)},
	{"30 05 05 00 04 02 01 02", failure(api.ErrShort, 7)},
	{"30 06 31 02 05 01 05 00", failure(api.ErrShort, 6)},
	{"30 04 31 01 05 00", failure(api.ErrShort, 5)},
	// Bytes behind the outermost element.
	{"05 00 05 00", failure(api.ErrTrailing, 2)},
	{"05 00 00", failure(api.ErrTrailing, 2)},
	{"30 00 1f", failure(api.ErrTrailing, 2)},
	{"30 02 05 00 30 00", failure(api.ErrTrailing, 4)},
	{"04 01 07 ff ff", failure(api.ErrTrailing, 3)},
	// Several errors, of which the first one in the order of the offsets counts, and those of an element come ahead of those in it.
	{"30 07 05 01", failure(api.ErrShort, 4)},
	{"30 07 1f 00 05 80", failure(api.ErrShort, 6)},
	{"30 04 1f 00 05 80", failure(api.ErrTag, 2)},
	{"30 04 05 80 1f 00", failure(api.ErrLength, 3)},
	{"30 04 30 03 1f 00", failure(api.ErrShort, 6)},
	{"30 04 30 02 1f 00 00", failure(api.ErrTag, 4)},
	{"30 02 05 01 00 00", failure(api.ErrShort, 4)},
	{"30 06 30 02 05 01 1f 00", failure(api.ErrShort, 6)},
	{"3f 80", failure(api.ErrTag, 0)},
	{"1f 02 1f 00", failure(api.ErrTag, 0)},
}

// P3.1, Parse and Find: each error with its offset, and their order, which are the same deeper inside.
func TestParseErrors(t *testing.T) {
	for _, x := range wrongTrees {
		b := octets(x.b)
		expectNoTree(t, b, x.want)
		if len(b) == 0 || x.want.Code == api.ErrTrailing {
			continue
		}
		for _, around := range []int{1, 5, 13} {
			inner := wrapped(around, b)
			expectNoTree(t, inner, failure(x.want.Code, len(inner)-len(b)+x.want.Offset))
			expectNoTree(t, append(inner, 0), failure(x.want.Code, len(inner)-len(b)+x.want.Offset))
		}
	}
	for _, empty := range [][]byte{nil, {}, octets("05 00")[:0]} {
		expectNoTree(t, empty, failure(api.ErrShort, 0))
	}
}

// P3.1: bytes behind the contents octets are never read, even if the input has capacity for them.
func TestEndOfInput(t *testing.T) {
	b := octets("30 04 05 00 05 00")
	for end := range len(b) {
		expectNoTree(t, b[:end], failure(api.ErrShort, end))
	}
	expectParse(t, b[2:4], leaf(5), none)
}

// P3.1, Valid, Parse and Encode: depths up to 16, and greater ones.
func TestDepths(t *testing.T) {
	for _, inner := range []api.Node{leaf(5), leaf(4, 0x30, 0x00), sequence()} {
		element, _ := tree.Encode(inner)
		for depth := 1; depth <= 40; depth++ {
			n := chain(depth, inner)
			b := wrapped(depth-1, element)
			if depth <= api.MaxDepth {
				expectTree(t, n, b)
				continue
			}
			expectInvalid(t, n)
			beside := sequence(leaf(5), n, leaf(5))
			expectInvalid(t, beside)
			// The offset is that of the element on the level 17.
			expectNoTree(t, b, failure(api.ErrDepth, len(b)-len(wrapped(depth-17, element))))
		}
	}
	for _, depth := range []int{100, 1000} {
		b := wrapped(depth, nil)
		expectNoTree(t, b, failure(api.ErrDepth, len(b)-len(wrapped(depth-16, nil))))
		expectInvalid(t, chain(depth, leaf(5)))
	}
}

// P3.1, Parse: in 16 other elements any element is too deep, whatever is wrong with it; what comes ahead of it counts first.
func TestDepthErrorOrder(t *testing.T) {
	for _, text := range []string{"05", "05 00", "1f", "1f 00", "05 80", "05 01", "05 00 05 00", "30 02 1f 00"} {
		inner := octets(text)
		b := wrapped(16, inner)
		at := len(b) - len(inner)
		expectNoTree(t, b, failure(api.ErrDepth, at))
		expectNoTree(t, append(bytes.Clone(b), 0), failure(api.ErrDepth, at))
		// Ahead of it: an element that does not fit, or one that is not read.
		expectNoTree(t, b[:at], failure(api.ErrShort, at))
		expectNoTree(t, wrapped(1, append(octets("05 80"), b...)), failure(api.ErrLength, 3))
		expectNoTree(t, wrapped(1, append(octets("1f 00"), b...)), failure(api.ErrTag, 2))
		// Behind it.
		deep := append(wrapped(15, inner), octets("1f 00")...)
		expectNoTree(t, wrapped(1, deep), failure(api.ErrDepth, at))
	}
	// The elements around an element count, not those that were read ahead of it.
	wide := bytes.Repeat(octets("30 00"), 50)
	n := sequence(slices.Repeat([]api.Node{sequence()}, 50)...)
	expectTree(t, chain(15, n), wrapped(15, wide))
	once := wrapped(14, octets("05 00"))
	expectTree(t, sequence(chain(15, leaf(5)), chain(15, leaf(5))), wrapped(1, slices.Concat(once, once)))
	tooDeep := slices.Concat(once, wrapped(15, octets("05 00")), once)
	expectNoTree(t, wrapped(1, tooDeep), failure(api.ErrDepth, 2+len(once)+2*15))
}

// referenceError is a second reading of the chapter: it goes through the elements in the order of their offsets, with the ends of the elements around the next one.
func referenceError(b []byte) api.Error {
	var ends []int
	for at := 0; ; {
		limit := len(b)
		if len(ends) > 0 {
			limit = ends[len(ends)-1]
		}
		if len(ends) == 16 {
			return failure(api.ErrDepth, at)
		}
		header, err := tlv.ReadHeader(b[at:limit])
		if err != none {
			return failure(err.Code, at+err.Offset)
		}
		at += header.Size
		if at+header.Length > limit {
			return failure(api.ErrShort, limit)
		}
		if header.Constructed {
			ends = append(ends, at+header.Length)
		} else {
			at += header.Length
		}
		for len(ends) > 0 && ends[len(ends)-1] == at {
			ends = ends[:len(ends)-1]
		}
		if len(ends) == 0 {
			if at < len(b) {
				return failure(api.ErrTrailing, at)
			}
			return none
		}
	}
}

// checkBytes compares Parse with the second reading, and what it reads with what is encoded. It reports whether there is a tree.
func checkBytes(t *testing.T, b []byte) bool {
	t.Helper()
	n, err := tree.Parse(b)
	if want := referenceError(b); err != want {
		t.Fatalf("Parse(%x) returns %v, want %v", b, err, want)
	}
	if err != none {
		if !isZero(n) {
			t.Fatalf("Parse(%x) returns %v together with an error", b, n)
		}
		return false
	}
	if !tree.Valid(n) || tree.Depth(n) > 16 {
		t.Fatalf("Parse(%x) = %v, which is not valid", b, n)
	}
	if again, code := tree.Encode(n); !bytes.Equal(again, b) || code != api.OK {
		t.Fatalf("Parse(%x) = %v, which is encoded as %x, %v", b, n, again, code)
	}
	return true
}

// smallSlices returns all slices of at most length bytes out of an alphabet.
func smallSlices(length int, alphabet ...byte) [][]byte {
	all := [][]byte{nil}
	for from := 0; length > 0; length-- {
		to := len(all)
		for ; from < to; from++ {
			for _, b := range alphabet {
				all = append(all, append(bytes.Clone(all[from]), b))
			}
		}
	}
	return all
}

// P3.1 and P3.2, Parse: any bytes are refused with the error of the second reading, or are the encoding of what is read.
func TestParseOfAnyBytes(t *testing.T) {
	trees := 0
	count := func(b []byte) {
		if checkBytes(t, b) {
			trees++
		}
	}
	for _, b := range smallSlices(7, 0x00, 0x01, 0x02, 0x05, 0x30, 0x80) {
		count(b)
	}
	for _, b := range smallSlices(6, 0x00, 0x02, 0x03, 0x04, 0x1f, 0x30, 0x81, 0xa0) {
		count(b)
	}
	for x := range 1 << 16 {
		count([]byte{byte(x >> 8), byte(x)})
		count([]byte{byte(x >> 8), byte(x), 0x30, 0x00})
		count([]byte{0x30, 0x02, byte(x >> 8), byte(x)})
	}
	if trees < 1000 {
		t.Errorf("there are only %d trees", trees)
	}
}

// randomTree returns a valid tree of at most the depth.
func randomTree(source *rand.Rand, depth int) api.Node {
	n := api.Node{Class: source.Intn(4), Number: source.Intn(31)}
	if depth > 1 && source.Intn(4) > 0 {
		n.Constructed = true
		for range source.Intn(4) {
			n.Kids = append(n.Kids, randomTree(source, depth-1))
		}
		return n
	}
	if size := source.Intn(12); size == 11 {
		n.Content = make([]byte, source.Intn(700))
	} else {
		n.Content = make([]byte, size)
	}
	source.Read(n.Content)
	return n
}

// referenceEncoding is the definition of the encoding, for a valid tree.
func referenceEncoding(n api.Node) []byte {
	content := bytes.Clone(n.Content)
	for _, kid := range n.Kids {
		content = append(content, referenceEncoding(kid)...)
	}
	b, _ := tlv.Encode(n.Class, n.Constructed, n.Number, content)
	return b
}

// P3.2: Parse inverts Encode, for trees of all depths.
func TestParseInvertsEncode(t *testing.T) {
	source := rand.New(rand.NewSource(4))
	for i := range 3000 {
		n := randomTree(source, 1+i%16)
		expectTree(t, n, referenceEncoding(n))
	}
}

// P3.1 and P3.2: an encoding of which a part is changed is refused with the right error, or it is that of another tree.
func TestChangedEncodings(t *testing.T) {
	source := rand.New(rand.NewSource(5))
	for i := range 20000 {
		n := randomTree(source, 1+i%16)
		b := referenceEncoding(n)
		if len(b) > 500 {
			continue
		}
		changed := bytes.Clone(b)
		at := source.Intn(len(b))
		switch i % 4 {
		case 0:
			changed[at] = byte(source.Intn(256))
		case 1:
			changed[at]++
		case 2:
			changed = slices.Delete(changed, at, at+1)
		case 3:
			changed = slices.Insert(changed, at, byte(source.Intn(256)))
		}
		if checkBytes(t, changed) && !bytes.Equal(changed, b) {
			if other, _ := tree.Parse(changed); same(other, n) {
				t.Fatalf("%x and %x are both read as %v", b, changed, n)
			}
		}
	}
}

// smallTrees returns all trees that are built of few nodes.
func smallTrees() []api.Node {
	level := []api.Node{{}, {Number: 5}, {Class: 2}, {Content: []byte{0}}, {Content: []byte{0, 0}}, {Content: []byte{5, 0}}, {Constructed: true}, {Class: 2, Constructed: true}}
	all := level
	for range 2 {
		var next []api.Node
		for i, a := range all {
			next = append(next, api.Node{Constructed: true, Kids: []api.Node{a}}, api.Node{Class: 2, Constructed: true, Kids: []api.Node{a}})
			for _, b := range all[:min(len(all), 40)] {
				if i < 40 {
					next = append(next, api.Node{Constructed: true, Kids: []api.Node{a, b}})
				}
			}
		}
		all = append(slices.Clone(level), next...)
	}
	return all
}

// P3.2 and P3.3: different trees have different encodings, and none of them begins with another one.
func TestEncodingsDiffer(t *testing.T) {
	var all [][]byte
	for _, n := range smallTrees() {
		b, code := tree.Encode(n)
		if code != api.OK {
			t.Fatalf("Encode(%v) returns the code %v", n, code)
		}
		all = append(all, b)
	}
	// In lexicographic order, an encoding that is the beginning of another one is also that of the next one.
	slices.SortFunc(all, bytes.Compare)
	for i := 1; i < len(all); i++ {
		if bytes.HasPrefix(all[i], all[i-1]) {
			t.Fatalf("%x begins with %x", all[i], all[i-1])
		}
	}
}

// P3.3: no part at the beginning of an encoding is that of a tree, and none with bytes behind it.
func TestPartsOfAnEncoding(t *testing.T) {
	source := rand.New(rand.NewSource(6))
	for i := range 300 {
		b := referenceEncoding(randomTree(source, 1+i%8))
		for end := range min(len(b), 400) {
			expectNoTree(t, b[:end], failure(api.ErrShort, end))
		}
		for _, behind := range []string{"00", "05 00", "1f", "30 80"} {
			expectNoTree(t, append(bytes.Clone(b), octets(behind)...), failure(api.ErrTrailing, len(b)))
		}
	}
}

// P3.1, Encode: contents octets longer than MaxLength. The trees have the same octets many times, so that they need little memory.
func TestEncodeTooLong(t *testing.T) {
	const mega = 1 << 20
	// With their identifier octet and their 4 length octets, 2048 of these elements have MaxLength + 1 octets.
	part := leaf(4, make([]byte, mega-5)...)
	exact := sequence(slices.Repeat([]api.Node{part}, 2048)...)
	// Two of these fit each, but not both.
	half := sequence(slices.Repeat([]api.Node{part}, 1024)...)
	for i, n := range []api.Node{
		exact,
		sequence(exact),
		sequence(leaf(5), chain(10, exact)),
		sequence(half, half),
		sequence(half, leaf(5), sequence(sequence(half))),
	} {
		if !tree.Valid(n) {
			t.Errorf("tree %d is not valid", i)
		}
		if b, code := tree.Encode(n); len(b) != 0 || code != api.ErrRange {
			t.Errorf("tree %d: Encode returns %d octets, %v", i, len(b), code)
		}
		wrong := sequence(n, api.Node{Number: 31})
		if b, code := tree.Encode(wrong); len(b) != 0 || code != api.ErrInvalid {
			t.Errorf("tree %d with an invalid node: Encode returns %d octets, %v", i, len(b), code)
		}
	}
}

// P3.1, Find: the paths that the chapter and the example of a tree have, and those that lead nowhere.
func TestFind(t *testing.T) {
	//            0     2        5     7     9        12    14
	b := octets("30 0e 02 01 05 31 07 05 00 04 01 07 30 00 05 00")
	for _, x := range []struct {
		path    []int
		want    api.Range
		wantErr api.Error
	}{
		{nil, api.Range{From: 0, To: 16}, none},
		{[]int{}, api.Range{From: 0, To: 16}, none},
		{[]int{0}, api.Range{From: 2, To: 5}, none},
		{[]int{1}, api.Range{From: 5, To: 14}, none},
		{[]int{2}, api.Range{From: 14, To: 16}, none},
		{[]int{1, 0}, api.Range{From: 7, To: 9}, none},
		{[]int{1, 1}, api.Range{From: 9, To: 12}, none},
		{[]int{1, 2}, api.Range{From: 12, To: 14}, none},
		// An index that does not exist.
		{[]int{3}, api.Range{}, failure(api.ErrNotFound, 0)},
		{[]int{4, 0}, api.Range{}, failure(api.ErrNotFound, 0)},
		{[]int{math.MaxInt}, api.Range{}, failure(api.ErrNotFound, 0)},
		{[]int{1, 3}, api.Range{}, failure(api.ErrNotFound, 5)},
		{[]int{1, 3, -1}, api.Range{}, failure(api.ErrNotFound, 5)},
		{[]int{1, math.MaxInt}, api.Range{}, failure(api.ErrNotFound, 5)},
		// A negative one.
		{[]int{-1}, api.Range{}, failure(api.ErrNotFound, 0)},
		{[]int{-2, 1}, api.Range{}, failure(api.ErrNotFound, 0)},
		{[]int{math.MinInt}, api.Range{}, failure(api.ErrNotFound, 0)},
		{[]int{1, -1}, api.Range{}, failure(api.ErrNotFound, 5)},
		{[]int{1, math.MinInt, 0}, api.Range{}, failure(api.ErrNotFound, 5)},
		// Into a primitive element, with or without contents octets, and into an empty constructed one.
		{[]int{0, 0}, api.Range{}, failure(api.ErrNotFound, 2)},
		{[]int{0, 1, 0}, api.Range{}, failure(api.ErrNotFound, 2)},
		{[]int{0, -1}, api.Range{}, failure(api.ErrNotFound, 2)},
		{[]int{2, 0}, api.Range{}, failure(api.ErrNotFound, 14)},
		{[]int{1, 1, 0}, api.Range{}, failure(api.ErrNotFound, 9)},
		{[]int{1, 2, 0}, api.Range{}, failure(api.ErrNotFound, 12)},
		{[]int{1, 2, 0, 0, 0}, api.Range{}, failure(api.ErrNotFound, 12)},
		{make([]int, 100), api.Range{}, failure(api.ErrNotFound, 2)},
	} {
		expectFind(t, b, x.path, x.want, x.wantErr)
	}
	// What a primitive element contains is not gone into, even if it looks like elements.
	expectFind(t, octets("04 02 05 00"), nil, api.Range{To: 4}, none)
	expectFind(t, octets("04 02 05 00"), []int{0}, api.Range{}, failure(api.ErrNotFound, 0))
	expectFind(t, octets("30 04 04 02 05 00"), []int{0, 0}, api.Range{}, failure(api.ErrNotFound, 2))
}

// checkPaths compares Find with the offsets at which the elements follow each other, for all paths that begin with the given one.
func checkPaths(t *testing.T, b []byte, n api.Node, at api.Range, path []int) {
	t.Helper()
	expectFind(t, b, path, at, none)
	nowhere := failure(api.ErrNotFound, at.From)
	for _, index := range []int{-1, len(n.Kids), len(n.Kids) + 1, math.MinInt, math.MaxInt} {
		expectFind(t, b, append(slices.Clone(path), index), api.Range{}, nowhere)
		expectFind(t, b, append(slices.Clone(path), index, 0), api.Range{}, nowhere)
	}
	header, _ := tlv.ReadHeader(b[at.From:])
	from := at.From + header.Size
	for i, kid := range n.Kids {
		to := from + len(referenceEncoding(kid))
		checkPaths(t, b, kid, api.Range{From: from, To: to}, append(slices.Clone(path), i))
		from = to
	}
}

// P3.1, Find: every element of many trees, and every place where a path does not go on.
func TestFindEverything(t *testing.T) {
	source := rand.New(rand.NewSource(7))
	for i := range 400 {
		n := randomTree(source, 1+i%6)
		b := referenceEncoding(n)
		checkPaths(t, b, n, api.Range{To: len(b)}, nil)
	}
	for _, inner := range []api.Node{leaf(5), leaf(4, make([]byte, 200)...), sequence()} {
		n := chain(16, inner)
		b := referenceEncoding(n)
		checkPaths(t, b, n, api.Range{To: len(b)}, nil)
	}
}

// scribble overwrites a slice and its unused capacity.
func scribble(b []byte) {
	all := b[:cap(b)]
	for i := range all {
		all[i] = 99
	}
}

// P3.1 with rule 5, Parse: later changes of the input change no tree, and the input stays as it is.
func TestInputIsCopied(t *testing.T) {
	const text = "30 0c 04 02 0a 0b 31 04 04 02 0c 0d 05 00"
	room := octets(text + "77 77 77")
	n, _ := tree.Parse(room[:14])
	tree.Find(room[:14], []int{1, 0})
	tree.Parse(room[:7])
	if !bytes.Equal(room, octets(text+"77 77 77")) {
		t.Errorf("the input became %x", room)
	}
	scribble(room)
	expectEncode(t, n, octets(text), api.OK)
}

// P3.1 with rule 5, Parse: later changes of a tree, and what is appended to its slices, change neither the input nor the rest of the tree.
func TestTreeIsACopy(t *testing.T) {
	const text = "30 10 04 02 0a 0b 04 02 0c 0d 31 06 04 00 04 02 0e 0f"
	input := octets(text)
	for i := range 2 {
		n, _ := tree.Parse(input)
		_ = append(n.Kids[i].Content, 77, 77, 77, 77, 77)
		expectEncode(t, n, octets(text), api.OK)
		scribble(n.Kids[i].Content)
		n.Kids[i].Content = []byte{10 + 2*byte(i), 11 + 2*byte(i)}
		expectEncode(t, n, octets(text), api.OK)
		_ = append(n.Kids, leaf(1), leaf(1), leaf(1))
		_ = append(n.Kids[2].Kids, leaf(1), leaf(1), leaf(1))
		_ = append(n.Kids[2].Kids[0].Content, 77, 77, 77, 77, 77)
		expectEncode(t, n, octets(text), api.OK)
		n.Kids[2].Kids[0] = leaf(1)
		n.Kids[0] = leaf(1)
		if !bytes.Equal(input, octets(text)) {
			t.Fatalf("the input became %x", input)
		}
		expectParse(t, input, sequence(leaf(4, 10, 11), leaf(4, 12, 13), api.Node{Number: 17, Constructed: true, Kids: []api.Node{leaf(4), leaf(4, 14, 15)}}), none)
	}
}

// P3.1 with rule 5, Encode: later changes of a tree do not change its encoding, and those of the encoding not the tree.
func TestEncodingIsACopy(t *testing.T) {
	content := octets("0a 0b")
	kids := []api.Node{{Number: 4, Content: content}}
	for _, n := range []api.Node{kids[0], sequence(kids...), sequence(sequence(kids...))} {
		want := referenceEncoding(n)
		b, _ := tree.Encode(n)
		scribble(b)
		expectEncode(t, n, want, api.OK)
		b, _ = tree.Encode(n)
		scribble(content)
		kids[0].Number = 5
		if !bytes.Equal(b, want) {
			t.Errorf("the encoding became %x, want %x", b, want)
		}
		copy(content, octets("0a 0b"))
		kids[0].Number = 4
	}
}

// P3.1 with rule 5: the unused capacity of slices in a tree, and a path, stay as they are.
func TestUnusedCapacity(t *testing.T) {
	content := octets("01 02 03 04 05 06 07 08")
	kids := []api.Node{leaf(5), leaf(4, 1), leaf(4, 2)}
	n := api.Node{Number: api.TagSequence, Constructed: true, Content: content[:0], Kids: append(kids[:0], api.Node{Number: 4, Content: content[:2]})}
	wantKids := []api.Node{n.Kids[0], leaf(4, 1), leaf(4, 2)}
	expectEncode(t, n, octets("30 04 04 02 01 02"), api.OK)
	expectEncode(t, api.Node{Number: 31, Constructed: true, Content: content[:0], Kids: n.Kids}, nil, api.ErrInvalid)
	tree.Depth(n)
	tree.Count(n)
	if !bytes.Equal(content, octets("01 02 03 04 05 06 07 08")) || !slices.EqualFunc(kids, wantKids, same) {
		t.Errorf("the octets became %x, the nodes %v", content, kids)
	}
	path := []int{0, 7, 8, 9}
	expectFind(t, octets("30 04 04 02 01 02"), path[:1], api.Range{From: 2, To: 6}, none)
	expectFind(t, octets("30 04 04 02 01 02"), path, api.Range{}, failure(api.ErrNotFound, 2))
	if !slices.Equal(path, []int{0, 7, 8, 9}) {
		t.Errorf("the path became %v", path)
	}
}
