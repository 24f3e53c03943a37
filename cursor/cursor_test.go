package cursor_test

import (
	"bytes"
	"math"
	"testing"

	"cretula/api"
	"cretula/cursor"
)

var none = api.Error{}

func short(offset int) api.Error   { return api.Error{Code: api.ErrShort, Offset: offset} }
func outside(offset int) api.Error { return api.Error{Code: api.ErrRange, Offset: offset} }

// expectState checks everything that can be seen of a cursor without moving it.
func expectState(t *testing.T, c *cursor.Cursor, pos int, rest ...byte) {
	t.Helper()
	if got := c.Pos(); got != pos {
		t.Errorf("Pos() = %d, want %d", got, pos)
	}
	if got := c.Left(); got != len(rest) {
		t.Errorf("Left() = %d, want %d", got, len(rest))
	}
	if got := c.Rest(); !bytes.Equal(got, rest) {
		t.Errorf("Rest() = %v, want %v", got, rest)
	}
}

func expectByte(t *testing.T, c *cursor.Cursor, want byte, wantErr api.Error) {
	t.Helper()
	if got, err := c.Byte(); got != want || err != wantErr {
		t.Errorf("Byte() = %d, %v, want %d, %v", got, err, want, wantErr)
	}
}

func expectTake(t *testing.T, c *cursor.Cursor, n int, want []byte, wantErr api.Error) {
	t.Helper()
	if got, err := c.Take(n); !bytes.Equal(got, want) || err != wantErr {
		t.Errorf("Take(%d) = %v, %v, want %v, %v", n, got, err, want, wantErr)
	}
}

func expectSeek(t *testing.T, c *cursor.Cursor, pos int, want api.Error) {
	t.Helper()
	if got := c.Seek(pos); got != want {
		t.Errorf("Seek(%d) = %v, want %v", pos, got, want)
	}
}

// P1.1, the example of the chapter.
func TestExample(t *testing.T) {
	c := cursor.New([]byte{1, 2, 3})
	expectState(t, c, 0, 1, 2, 3)
	expectByte(t, c, 1, none)
	expectState(t, c, 1, 2, 3)
	expectTake(t, c, 2, []byte{2, 3}, none)
	expectState(t, c, 3)
	expectByte(t, c, 0, short(3))
	expectState(t, c, 3)
}

// P1.1, cursors without bytes: a nil one behaves like the others.
func TestWithoutBytes(t *testing.T) {
	makers := map[string]func() *cursor.Cursor{
		"nil cursor":    func() *cursor.Cursor { return nil },
		"nil bytes":     func() *cursor.Cursor { return cursor.New(nil) },
		"no bytes":      func() *cursor.Cursor { return cursor.New([]byte{}) },
		"only capacity": func() *cursor.Cursor { return cursor.New([]byte{1, 2, 3}[:0]) },
	}
	for name, maker := range makers {
		t.Run(name, func(t *testing.T) {
			c := maker()
			expectState(t, c, 0)
			expectByte(t, c, 0, short(0))
			expectTake(t, c, 0, nil, none)
			expectTake(t, c, 1, nil, short(0))
			expectTake(t, c, math.MaxInt, nil, short(0))
			expectTake(t, c, -1, nil, outside(0))
			expectTake(t, c, math.MinInt, nil, outside(0))
			expectSeek(t, c, 0, none)
			expectSeek(t, c, 1, outside(0))
			expectSeek(t, c, -1, outside(0))
			expectSeek(t, c, math.MaxInt, outside(0))
			expectSeek(t, c, math.MinInt, outside(0))
			expectState(t, c, 0)
		})
	}
}

// P1.1, Take: negative numbers, too large ones, and all that are left.
func TestTake(t *testing.T) {
	c := cursor.New([]byte{10, 20, 30, 40, 50})
	expectTake(t, c, 0, nil, none)
	expectTake(t, c, 2, []byte{10, 20}, none)
	for _, n := range []int{-1, -2, -3, math.MinInt + 1, math.MinInt} {
		expectTake(t, c, n, nil, outside(2))
		expectState(t, c, 2, 30, 40, 50)
	}
	// The last three, added to the position 2, exceed the range of an int.
	for _, n := range []int{4, 5, 6, math.MaxInt - 2, math.MaxInt - 1, math.MaxInt} {
		expectTake(t, c, n, nil, short(5))
		expectState(t, c, 2, 30, 40, 50)
	}
	expectTake(t, c, 3, []byte{30, 40, 50}, none)
	expectState(t, c, 5)
	expectTake(t, c, 0, nil, none)
	expectTake(t, c, 1, nil, short(5))
	// A negative number is the first error, also at the end.
	expectTake(t, c, -1, nil, outside(5))
	expectState(t, c, 5)
}

// P1.1, Byte: every value of a byte, then the end again and again.
func TestByte(t *testing.T) {
	input := make([]byte, 256)
	for i := range input {
		input[i] = byte(i)
	}
	c := cursor.New(input)
	for i, want := range input {
		expectState(t, c, i, input[i:]...)
		expectByte(t, c, want, none)
	}
	for range 3 {
		expectByte(t, c, 0, short(256))
		expectState(t, c, 256)
	}
}

// P1.1, Seek: every position, and those just outside.
func TestSeek(t *testing.T) {
	c := cursor.New([]byte{1, 2, 3})
	expectSeek(t, c, 2, none)
	expectState(t, c, 2, 3)
	for _, pos := range []int{-1, -2, 4, 5, math.MinInt, math.MaxInt} {
		expectSeek(t, c, pos, outside(2))
		expectState(t, c, 2, 3)
	}
	expectSeek(t, c, 3, none)
	expectState(t, c, 3)
	expectByte(t, c, 0, short(3))
	expectSeek(t, c, 4, outside(3))
	expectSeek(t, c, 0, none)
	expectState(t, c, 0, 1, 2, 3)
	expectSeek(t, c, -1, outside(0))
	expectSeek(t, c, 1, none)
	expectByte(t, c, 2, none)
	expectState(t, c, 2, 3)
}

// step is a call on a cursor over 1, 2, 3, and what the chapter says of it at the position pos: the bytes that are returned, the error, and the next position.
type step struct {
	name string
	call func(*cursor.Cursor) ([]byte, api.Error)
	want func(pos int) ([]byte, api.Error, int)
}

var sequenceInput = []byte{1, 2, 3}

func takeStep(n int) step {
	return step{
		"Take",
		func(c *cursor.Cursor) ([]byte, api.Error) { return c.Take(n) },
		func(pos int) ([]byte, api.Error, int) {
			if n < 0 {
				return nil, outside(pos), pos
			}
			if pos+n > 3 {
				return nil, short(3), pos
			}
			return sequenceInput[pos : pos+n], none, pos + n
		},
	}
}

func seekStep(to int) step {
	return step{
		"Seek",
		func(c *cursor.Cursor) ([]byte, api.Error) { return nil, c.Seek(to) },
		func(pos int) ([]byte, api.Error, int) {
			if to < 0 || to > 3 {
				return nil, outside(pos), pos
			}
			return nil, none, to
		},
	}
}

func byteStep() step {
	return step{
		"Byte",
		func(c *cursor.Cursor) ([]byte, api.Error) {
			b, err := c.Byte()
			if err != none && b == 0 {
				return nil, err
			}
			return []byte{b}, err
		},
		func(pos int) ([]byte, api.Error, int) {
			if pos == 3 {
				return nil, short(3), 3
			}
			return sequenceInput[pos : pos+1], none, pos + 1
		},
	}
}

// P1.1, all sequences of five calls.
func TestSequences(t *testing.T) {
	const length = 5
	steps := []step{byteStep()}
	for n := -1; n <= 4; n++ {
		steps = append(steps, takeStep(n), seekStep(n))
	}
	total := 1
	for range length {
		total *= len(steps)
	}
	for sequence := range total {
		c, pos := cursor.New(sequenceInput), 0
		for i, code := 0, sequence; i < length; i, code = i+1, code/len(steps) {
			s := steps[code%len(steps)]
			got, err := s.call(c)
			want, wantErr, next := s.want(pos)
			if !bytes.Equal(got, want) || err != wantErr {
				t.Fatalf("sequence %d, call %d: %s at %d = %v, %v, want %v, %v", sequence, i, s.name, pos, got, err, want, wantErr)
			}
			pos = next
			if c.Pos() != pos || c.Left() != 3-pos || !bytes.Equal(c.Rest(), sequenceInput[pos:]) {
				t.Fatalf("sequence %d, call %d: %s leads to %d, want %d", sequence, i, s.name, c.Pos(), pos)
			}
		}
	}
}

// scribble overwrites a slice and its unused capacity.
func scribble(b []byte) {
	all := b[:cap(b)]
	for i := range all {
		all[i] = 99
	}
}

// P1.1 with the rules 4 and 5: later changes of the input do not change a cursor.
func TestInputIsCopied(t *testing.T) {
	input := []byte{1, 2, 3}
	c := cursor.New(input)
	scribble(input)
	expectState(t, c, 0, 1, 2, 3)
	expectByte(t, c, 1, none)
	scribble(input)
	expectTake(t, c, 2, []byte{2, 3}, none)
}

// P1.1 with rule 5: later changes of the results change neither a cursor, nor its input, nor one another.
func TestResultsAreCopies(t *testing.T) {
	input := []byte{1, 2, 3, 4}
	c := cursor.New(input)
	scribble(c.Rest())
	expectState(t, c, 0, 1, 2, 3, 4)
	first, _ := c.Take(2)
	second, _ := c.Take(2)
	scribble(first)
	_ = append(first[:0], 77, 77, 77, 77)
	if !bytes.Equal(second, []byte{3, 4}) {
		t.Errorf("the second result became %v", second)
	}
	empty, _ := c.Take(0)
	scribble(empty)
	scribble(c.Rest())
	expectSeek(t, c, 0, none)
	expectState(t, c, 0, 1, 2, 3, 4)
	nothing, _ := c.Take(0)
	scribble(nothing)
	expectState(t, c, 0, 1, 2, 3, 4)
	again, _ := c.Take(2)
	if !bytes.Equal(again, []byte{1, 2}) {
		t.Errorf("the first bytes became %v", again)
	}
	if !bytes.Equal(input, []byte{1, 2, 3, 4}) {
		t.Errorf("the input became %v", input)
	}
}

// P1.1 with rule 5: neither the arguments nor their unused capacity are modified.
func TestArgumentsStay(t *testing.T) {
	room := []byte{0, 1, 2, 3, 4, 5}
	part := room[1:3]
	c := cursor.New(part)
	c.Byte()
	c.Take(1)
	c.Rest()
	c.Seek(0)
	cursor.Uint(part)
	cursor.Compare(part, room[1:4])
	cursor.Compare(room[1:4], part)
	if !bytes.Equal(room, []byte{0, 1, 2, 3, 4, 5}) {
		t.Errorf("the argument became %v", room)
	}
}

// P1.1: cursors over the same bytes have positions of their own.
func TestCursorsAreIndependent(t *testing.T) {
	input := []byte{1, 2, 3}
	a, b := cursor.New(input), cursor.New(input)
	expectTake(t, a, 2, []byte{1, 2}, none)
	expectState(t, b, 0, 1, 2, 3)
	expectByte(t, b, 1, none)
	expectState(t, a, 2, 3)
}

// P1.1, Uint: zeros at the beginning, and the numbers around 2^64.
func TestUint(t *testing.T) {
	ff := func(n int) []byte { return bytes.Repeat([]byte{0xff}, n) }
	zeros := func(n int) []byte { return make([]byte, n) }
	join := func(parts ...[]byte) []byte { return bytes.Join(parts, nil) }
	for _, x := range []struct {
		digits []byte
		want   uint64
		ok     bool
	}{
		{nil, 0, true},
		{[]byte{}, 0, true},
		{[]byte{0}, 0, true},
		{[]byte{1}, 1, true},
		{[]byte{255}, 255, true},
		{[]byte{1, 2}, 258, true},
		{[]byte{0, 1, 2}, 258, true},
		{[]byte{1, 2, 0}, 66048, true},
		{[]byte{1, 2, 3, 4, 5, 6, 7, 8}, 0x0102030405060708, true},
		{[]byte{0x80, 0, 0, 0, 0, 0, 0, 0}, 1 << 63, true},
		{zeros(8), 0, true},
		{zeros(9), 0, true},
		{zeros(100), 0, true},
		{ff(7), 1<<56 - 1, true},
		{join([]byte{1}, zeros(7)), 1 << 56, true},
		{ff(8), math.MaxUint64, true},
		{join([]byte{0}, ff(8)), math.MaxUint64, true},
		{join(zeros(50), ff(8)), math.MaxUint64, true},
		{join(zeros(50), []byte{5}), 5, true},
		{join([]byte{1}, zeros(8)), 0, false},
		{join([]byte{0, 1}, zeros(8)), 0, false},
		{join([]byte{1}, zeros(7), []byte{1}), 0, false},
		{join([]byte{1}, zeros(9)), 0, false},
		{join([]byte{1}, zeros(16)), 0, false},
		{join([]byte{1}, zeros(15), []byte{7}), 0, false},
		{join([]byte{0xff}, ff(8)), 0, false},
		{join(ff(8), []byte{0}), 0, false},
		{ff(100), 0, false},
	} {
		if got, ok := cursor.Uint(x.digits); got != x.want || ok != x.ok {
			t.Errorf("Uint(%v) = %d, %v, want %d, %v", x.digits, got, ok, x.want, x.ok)
		}
	}
}

// P1.1, Minimal: 0, and the numbers where a digit is added.
func TestMinimal(t *testing.T) {
	for _, x := range []struct {
		n    uint64
		want []byte
	}{
		{0, []byte{0}},
		{1, []byte{1}},
		{127, []byte{127}},
		{128, []byte{128}},
		{255, []byte{255}},
		{256, []byte{1, 0}},
		{258, []byte{1, 2}},
		{65535, []byte{255, 255}},
		{65536, []byte{1, 0, 0}},
		{1<<32 - 1, []byte{255, 255, 255, 255}},
		{1 << 32, []byte{1, 0, 0, 0, 0}},
		{1<<56 - 1, []byte{255, 255, 255, 255, 255, 255, 255}},
		{1 << 56, []byte{1, 0, 0, 0, 0, 0, 0, 0}},
		{0x0102030405060708, []byte{1, 2, 3, 4, 5, 6, 7, 8}},
		{1 << 63, []byte{128, 0, 0, 0, 0, 0, 0, 0}},
		{math.MaxUint64, []byte{255, 255, 255, 255, 255, 255, 255, 255}},
	} {
		if got := cursor.Minimal(x.n); !bytes.Equal(got, x.want) {
			t.Errorf("Minimal(%d) = %v, want %v", x.n, got, x.want)
		}
	}
	scribble(cursor.Minimal(0))
	if got := cursor.Minimal(0); !bytes.Equal(got, []byte{0}) {
		t.Errorf("Minimal(0) became %v", got)
	}
}

// P1.2: Uint inverts Minimal, whose digits do not begin with a zero.
func TestUintInvertsMinimal(t *testing.T) {
	check := func(n uint64) {
		digits := cursor.Minimal(n)
		if got, ok := cursor.Uint(digits); got != n || !ok {
			t.Fatalf("Uint(Minimal(%d)) = %d, %v", n, got, ok)
		}
		if len(digits) == 0 || digits[0] == 0 && n != 0 || n == 0 && len(digits) != 1 {
			t.Fatalf("Minimal(%d) = %v", n, digits)
		}
		padded := append(make([]byte, 9), digits...)
		if got, ok := cursor.Uint(padded); got != n || !ok {
			t.Fatalf("Uint(%v) = %d, %v", padded, got, ok)
		}
	}
	for n := range uint64(1 << 17) {
		check(n)
		check(math.MaxUint64 - n)
	}
	for shift := range 64 {
		for _, n := range []uint64{1<<shift - 1, 1 << shift, 1<<shift + 1, 0xab << shift, 0x123456789abcdef0 >> shift} {
			check(n)
		}
	}
}

// P1.1, Compare: slices that begin with one another, and bytes above 127.
func TestCompare(t *testing.T) {
	long := bytes.Repeat([]byte{7}, 1000)
	for _, x := range []struct {
		a, b []byte
		want int
	}{
		{nil, nil, 0},
		{nil, []byte{}, 0},
		{nil, []byte{0}, -1},
		{[]byte{0}, []byte{0}, 0},
		{[]byte{0}, []byte{0, 0}, -1},
		{[]byte{1}, []byte{1, 0}, -1},
		{[]byte{1, 2}, []byte{1, 2, 255}, -1},
		{[]byte{1, 255}, []byte{2}, -1},
		{[]byte{1, 2, 3}, []byte{1, 3}, -1},
		{[]byte{100}, []byte{200}, -1},
		{[]byte{127}, []byte{128}, -1},
		{[]byte{0}, []byte{255}, -1},
		{[]byte{5, 6, 7}, []byte{5, 6, 7}, 0},
		{long, append(long[:999:999], 8), -1},
		{long[:999], long, -1},
		{long, bytes.Clone(long), 0},
	} {
		if got := cursor.Compare(x.a, x.b); got != x.want {
			t.Errorf("Compare(%v, %v) = %d, want %d", x.a, x.b, got, x.want)
		}
		if got := cursor.Compare(x.b, x.a); got != -x.want {
			t.Errorf("Compare(%v, %v) = %d, want %d", x.b, x.a, got, -x.want)
		}
	}
}

// smallSlices returns all slices of at most length bytes out of an alphabet.
func smallSlices(length int, alphabet ...byte) [][]byte {
	all := [][]byte{nil}
	for from := 0; length > 0; length-- {
		to := len(all)
		for ; from < to; from++ {
			for _, b := range alphabet {
				all = append(all, append(bytes.Clone(all[from]), b))
			}
		}
	}
	return all
}

// P1.2: Compare is a total order, and it is the lexicographic one.
func TestCompareIsATotalOrder(t *testing.T) {
	all := smallSlices(3, 0, 1, 127, 128, 255)
	for _, a := range all {
		for _, b := range all {
			order := cursor.Compare(a, b)
			if order != bytes.Compare(a, b) {
				t.Fatalf("Compare(%v, %v) = %d", a, b, order)
			}
			if order != -cursor.Compare(b, a) || (order == 0) != bytes.Equal(a, b) {
				t.Fatalf("Compare(%v, %v) = %d is not antisymmetric", a, b, order)
			}
		}
	}
	few := smallSlices(2, 0, 1, 128, 255)
	for _, a := range few {
		for _, b := range few {
			for _, c := range few {
				if cursor.Compare(a, b) <= 0 && cursor.Compare(b, c) <= 0 && cursor.Compare(a, c) > 0 {
					t.Fatalf("not transitive: %v, %v, %v", a, b, c)
				}
			}
		}
	}
}

// P1.2: the bytes of Byte and Take, one after the other, are those of the input, whatever is taken, and whatever fails in between.
func TestReadingReturnsTheInput(t *testing.T) {
	input := []byte{0, 9, 255, 0, 7, 128, 1, 0, 64, 3}
	// The three sizes are taken in turn, where 1 is read by Byte.
	for a := 1; a <= 4; a++ {
		for b := range 5 {
			for c := range 5 {
				if read := readAll(t, input, a, b, c); !bytes.Equal(read, input) {
					t.Errorf("sizes %d, %d, %d: read %v", a, b, c, read)
				}
			}
		}
	}
}

// readAll reads the whole input in parts of these sizes, with calls that fail ahead of each.
func readAll(t *testing.T, input []byte, sizes ...int) []byte {
	t.Helper()
	c, read := cursor.New(input), []byte(nil)
	for i := 0; c.Left() > 0; i++ {
		expectTake(t, c, c.Left()+1, nil, short(len(input)))
		expectTake(t, c, -1, nil, outside(c.Pos()))
		size := min(sizes[i%len(sizes)], c.Left())
		var part []byte
		var err api.Error
		if size == 1 {
			part = make([]byte, 1)
			part[0], err = c.Byte()
		} else {
			part, err = c.Take(size)
		}
		if err != none || len(part) != size {
			t.Fatalf("sizes %v, part %d: %v, %v", sizes, i, part, err)
		}
		read = append(read, part...)
	}
	return read
}
