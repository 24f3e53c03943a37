package charset_test

import (
	"bytes"
	"encoding/hex"
	"fmt"
	"math"
	"math/rand"
	"regexp"
	"slices"
	"strings"
	"testing"

	"cretula/api"
	"cretula/charset"
)

// octets returns the octets that a text has in hexadecimal digits, with spaces between them.
func octets(text string) []byte {
	b, err := hex.DecodeString(strings.ReplaceAll(text, " ", ""))
	if err != nil {
		panic(err)
	}
	return b
}

// join returns all parts one after the other.
func join(parts ...[]byte) []byte { return slices.Concat(parts...) }

// grown returns all sequences of at most length elements out of an alphabet.
func grown[E any](length int, alphabet []E) [][]E {
	all := [][]E{nil}
	for from := 0; length > 0; length-- {
		to := len(all)
		for ; from < to; from++ {
			for _, e := range alphabet {
				all = append(all, append(slices.Clone(all[from]), e))
			}
		}
	}
	return all
}

// scribble overwrites a slice and its unused capacity.
func scribble[E any](slice []E, with E) {
	all := slice[:cap(slice)]
	for i := range all {
		all[i] = with
	}
}

// span is a range of characters, from the first one to the last one.
type span struct{ first, last rune }

// kinds has the kinds in ascending order.
var kinds = []int{12, 19, 20, 22, 26, 28, 30}

// spans returns the ranges of characters of a kind, ascending, as the table of the chapter has them.
func spans(kind int) []span {
	switch kind {
	case 12, 28:
		return []span{{0, 0xd7ff}, {0xe000, 0x10ffff}}
	case 19:
		return []span{{' ', ' '}, {'\'', ')'}, {'+', ':'}, {'=', '='}, {'?', '?'}, {'A', 'Z'}, {'a', 'z'}}
	case 20:
		return []span{{0x20, 0x7e}, {0xa0, 0xff}}
	case 22:
		return []span{{0, 0x7f}}
	case 26:
		return []span{{0x20, 0x7e}}
	case 30:
		return []span{{0, 0xd7ff}, {0xe000, 0xffff}}
	}
	return nil
}

// has reports whether a character belongs to a kind, by the table.
func has(kind int, r rune) bool {
	return slices.ContainsFunc(spans(kind), func(s span) bool { return r >= s.first && r <= s.last })
}

// widthOf returns the number of octets of each character of a kind, by the table; 0 if they are its UTF-8.
func widthOf(kind int) int {
	return map[int]int{12: 0, 19: 1, 20: 1, 22: 1, 26: 1, 28: 4, 30: 2}[kind]
}

// charactersOf returns all characters of a kind, ascending.
func charactersOf(kind int) []rune {
	var all []rune
	for _, s := range spans(kind) {
		for r := s.first; r <= s.last; r++ {
			all = append(all, r)
		}
	}
	return all
}

// utf8Of returns the UTF-8 of a number below 2^21, also of one that is no character, by the binary digits of RFC 3629.
func utf8Of(r rune) []byte {
	more := func(shift int) byte { return 0b10000000 | byte(r>>shift&0b111111) }
	switch {
	case r < 0x80:
		return []byte{byte(r)}
	case r < 0x800:
		return []byte{0b11000000 | byte(r>>6), more(0)}
	case r < 0x10000:
		return []byte{0b11100000 | byte(r>>12), more(6), more(0)}
	}
	return []byte{0b11110000 | byte(r>>18), more(12), more(6), more(0)}
}

// valueOf returns characters in UTF-8.
func valueOf(runes []rune) string {
	var b []byte
	for _, r := range runes {
		b = append(b, utf8Of(r)...)
	}
	return string(b)
}

// wellFormed is the syntax of UTF-8 in RFC 3629, of octets that are written in hexadecimal digits with a space behind each.
var wellFormed = regexp.MustCompile(`^(?:[0-7]. |(?:c[2-9a-f]|d.) [89ab]. |(?:e0 [ab]. |(?:e[1-9abcef]) [89ab]. |ed [89]. )[89ab]. |(?:f0 [9ab]. |f[123] [89ab]. |f4 8. )[89ab]. [89ab]. )*$`)

// runesOf returns the characters of octets in UTF-8, and whether they are valid UTF-8.
func runesOf(s string) ([]rune, bool) {
	if !wellFormed.MatchString(fmt.Sprintf("% x ", s)) && s != "" {
		return nil, false
	}
	var runes []rune
	for i := range len(s) {
		switch b := rune(s[i]); {
		case b < 0x80:
			runes = append(runes, b)
		case b >= 0xf0:
			runes = append(runes, b&0b111)
		case b >= 0xe0:
			runes = append(runes, b&0b1111)
		case b >= 0xc0:
			runes = append(runes, b&0b11111)
		default:
			last := len(runes) - 1
			runes[last] = runes[last]*64 + b&0b111111
		}
	}
	return runes, true
}

// validRunes returns the characters of a character string, and whether it is valid, by the definition.
func validRunes(t api.Text) ([]rune, bool) {
	runes, ok := runesOf(t.Value)
	if !ok || !slices.Contains(kinds, t.Kind) {
		return nil, false
	}
	for _, r := range runes {
		if !has(t.Kind, r) {
			return nil, false
		}
	}
	return runes, true
}

// contentsOf returns the octets of characters of a kind, by the table.
func contentsOf(kind int, runes []rune) []byte {
	width := widthOf(kind)
	if width == 0 {
		return []byte(valueOf(runes))
	}
	var text strings.Builder
	for _, r := range runes {
		fmt.Fprintf(&text, "%0*x", 2*width, r)
	}
	return octets(text.String())
}

// decoded returns the characters that octets of a kind are, and whether all of them are characters of the kind.
func decoded(kind int, c []byte) ([]rune, bool) {
	width := widthOf(kind)
	if width == 0 {
		return validRunes(api.Text{Kind: kind, Value: string(c)})
	}
	var runes []rune
	for ; len(c) > 0; c = c[width:] {
		if len(c) < width {
			return nil, false
		}
		number := 0
		for _, b := range c[:width] {
			number = number*256 + int(b)
		}
		if number > 0x10ffff || !has(kind, rune(number)) {
			return nil, false
		}
		runes = append(runes, rune(number))
	}
	return runes, true
}

// spaces is several spaces one after the other, outer those at the beginning and at the end.
var (
	spaces = regexp.MustCompile(`  +`)
	outer  = regexp.MustCompile(`^ +| +$`)
)

// folded folds a string by the definition: step by step, in the order of its words.
func folded(s string) string {
	for letter := byte('A'); letter <= 'Z'; letter++ {
		s = strings.ReplaceAll(s, string(rune(letter)), string(rune(letter-'A'+'a')))
	}
	return spaces.ReplaceAllString(outer.ReplaceAllString(s, ""), " ")
}

func expectEncode(t *testing.T, text api.Text, want []byte, wantCode api.Code) {
	t.Helper()
	if c, code := charset.Encode(text); !bytes.Equal(c, want) || code != wantCode {
		t.Errorf("Encode(%d, %.99q) = %.99x, %v, want %.99x, %v", text.Kind, text.Value, c, code, want, wantCode)
	}
}

func expectDecode(t *testing.T, kind int, c []byte, want api.Text, wantCode api.Code) {
	t.Helper()
	if text, code := charset.Decode(kind, c); text != want || code != wantCode {
		t.Errorf("Decode(%d, %.99x) = %d, %.99q, %v, want %d, %.99q, %v", kind, c, text.Kind, text.Value, code, want.Kind, want.Value, wantCode)
	}
}

func expectLen(t *testing.T, text api.Text, want int) {
	t.Helper()
	if got := charset.Len(text); got != want {
		t.Errorf("Len(%d, %.99q) = %d, want %d", text.Kind, text.Value, got, want)
	}
}

func expectBest(t *testing.T, s string, want api.Text, wantCode api.Code) {
	t.Helper()
	if text, code := charset.Best(s); text != want || code != wantCode {
		t.Errorf("Best(%.99q) = %d, %.99q, %v, want %d, %v", s, text.Kind, text.Value, code, want.Kind, wantCode)
	}
}

func expectFold(t *testing.T, s, want string) {
	t.Helper()
	if got := charset.Fold(s); got != want {
		t.Errorf("Fold(%.99q) = %.99q, want %.99q", s, got, want)
	}
}

func expectSame(t *testing.T, a, b api.Text, want bool) {
	t.Helper()
	if got := charset.Same(a, b); got != want {
		t.Errorf("Same(%d, %.99q; %d, %.99q) = %v", a.Kind, a.Value, b.Kind, b.Value, got)
	}
}

// expectText checks what all functions say of a valid character string with these characters.
func expectText(t *testing.T, text api.Text, runes []rune) {
	t.Helper()
	if !charset.Valid(text) {
		t.Errorf("Valid(%d, %.99q) = false", text.Kind, text.Value)
	}
	c := contentsOf(text.Kind, runes)
	expectEncode(t, text, c, api.OK)
	expectDecode(t, text.Kind, c, text, api.OK)
	expectLen(t, text, len(runes))
	expectSame(t, text, text, true)
}

// expectNoText checks what all functions say of a character string that is not valid.
func expectNoText(t *testing.T, text api.Text) {
	t.Helper()
	if charset.Valid(text) {
		t.Errorf("Valid(%d, %.99q) = true", text.Kind, text.Value)
	}
	expectEncode(t, text, nil, api.ErrInvalid)
	expectLen(t, text, 0)
	expectSame(t, text, text, false)
	for _, other := range []api.Text{{Kind: 12}, {Kind: 12, Value: "a"}, {Kind: 19, Value: "a"}} {
		expectSame(t, text, other, false)
		expectSame(t, other, text, false)
	}
}

// checkText compares all functions with the definitions, for any character string.
func checkText(t *testing.T, text api.Text) bool {
	t.Helper()
	runes, ok := validRunes(text)
	if ok {
		expectText(t, text, runes)
	} else {
		expectNoText(t, text)
	}
	return ok
}

// checkValue compares all functions with the definitions, for any Value and all kinds.
func checkValue(t *testing.T, s string) {
	t.Helper()
	for _, kind := range kinds {
		checkText(t, api.Text{Kind: kind, Value: s})
	}
	_, ok := runesOf(s)
	_, printable := validRunes(api.Text{Kind: 19, Value: s})
	switch {
	case printable:
		expectBest(t, s, api.Text{Kind: 19, Value: s}, api.OK)
	case ok:
		expectBest(t, s, api.Text{Kind: 12, Value: s}, api.OK)
	default:
		expectBest(t, s, api.Text{}, api.ErrInvalid)
	}
	expectFold(t, s, folded(s))
	expectFold(t, folded(s), folded(s))
}

// checkOctets compares Decode with the definition, for any contents octets of a kind.
func checkOctets(t *testing.T, kind int, c []byte) bool {
	t.Helper()
	runes, ok := decoded(kind, c)
	if !ok {
		expectDecode(t, kind, c, api.Text{}, api.ErrValue)
		return false
	}
	text := api.Text{Kind: kind, Value: valueOf(runes)}
	expectDecode(t, kind, c, text, api.OK)
	expectEncode(t, text, c, api.OK)
	return true
}

// P7.1, the examples of the chapter.
func TestExamples(t *testing.T) {
	for _, x := range []struct {
		kind int
		c    string
	}{
		{12, "41 c3 a9"},
		{20, "41 e9"},
		{28, "00 00 00 41 00 00 00 e9"},
		{30, "00 41 00 e9"},
	} {
		text := api.Text{Kind: x.kind, Value: "Aé"}
		expectText(t, text, []rune{'A', 0xe9})
		expectEncode(t, text, octets(x.c), api.OK)
		expectDecode(t, x.kind, octets(x.c), text, api.OK)
	}
	for _, kind := range []int{19, 22, 26} {
		expectNoText(t, api.Text{Kind: kind, Value: "Aé"})
	}
	expectBest(t, "a@b", api.Text{Kind: 12, Value: "a@b"}, api.OK)
	expectFold(t, "  A  b ", "a b")
}

// P7.1: the kinds, ascending, as often as they are asked for, and in memory of their own.
func TestKinds(t *testing.T) {
	named := []int{api.TagUTF8, api.TagPrintable, api.TagTeletex, api.TagIA5, api.TagVisible, api.TagUniversal, api.TagBMP}
	for range 200 {
		got := charset.Kinds()
		if !slices.Equal(got, kinds) || !slices.Equal(got, named) {
			t.Fatalf("Kinds() = %v", got)
		}
		scribble(got, 99)
	}
}

// P7.1 and P7.2: all characters of each kind in one string, and each kind of one octet with every one of them.
func TestAllCharacters(t *testing.T) {
	for _, x := range []struct{ kind, count int }{{12, 0x110000 - 0x800}, {19, 74}, {20, 191}, {22, 128}, {26, 95}, {28, 0x110000 - 0x800}, {30, 0x10000 - 0x800}} {
		runes := charactersOf(x.kind)
		if len(runes) != x.count {
			t.Errorf("the kind %d has %d characters, want %d", x.kind, len(runes), x.count)
		}
		expectText(t, api.Text{Kind: x.kind, Value: valueOf(runes)}, runes)
	}
	for r := rune(0); r < 0x180; r++ {
		checkValue(t, string(r))
	}
}

// P7.1: all characters up to U+12FFF, and some of the others, alone: for each kind those that it has not are not valid.
func TestOtherCharacters(t *testing.T) {
	for _, kind := range kinds {
		step := rune(1)
		for r := rune(0); r <= 0x10ffff; r += step {
			if r == 0x13000 {
				step = 0x101
			}
			text := api.Text{Kind: kind, Value: valueOf([]rune{r})}
			if charset.Valid(text) != has(kind, r) {
				t.Fatalf("Valid(%d, %#x) = %v", kind, r, !has(kind, r))
			}
			if !has(kind, r) {
				expectEncode(t, text, nil, api.ErrInvalid)
			}
		}
	}
}

// P7.1 and P7.2: the first and last characters of the ranges, and those just outside them, at the beginning, at the end and between others.
func TestEdgesOfRanges(t *testing.T) {
	edges := []rune{0, 0x7f, 0x80, 0x7ff, 0x800, 0xfffd, 0xfffe, 0xffff, 0x10000, 0x10ffff, 0x110000, 0x1fffff}
	for _, kind := range kinds {
		for _, s := range spans(kind) {
			edges = append(edges, max(s.first-1, 0), s.first, s.last, s.last+1)
		}
	}
	slices.Sort(edges)
	edges = slices.Compact(edges)
	valid := 0
	for _, r := range edges {
		for _, s := range []string{"%s", "%sa", "a%s", "a%sb", "a b%s:", "%[1]s%[1]s"} {
			value := fmt.Sprintf(s, utf8Of(r))
			checkValue(t, value)
			for _, kind := range kinds {
				if charset.Valid(api.Text{Kind: kind, Value: value}) {
					valid++
				}
			}
		}
	}
	if len(edges) < 30 || valid < 500 {
		t.Errorf("only %d edges with %d valid strings", len(edges), valid)
	}
}

// P7.1: what the table says of each kind, character by character, as it can be read without ranges.
func TestCharactersByName(t *testing.T) {
	letters := "ABCDEFGHIJKLMNOPQRSTUVWXYZabcdefghijklmnopqrstuvwxyz"
	for kind, x := range map[int]struct{ in, out string }{
		12: {letters + "\x00\x01\t\n\x7f\u0080é€\ud7ff\ue000\ufffd\uffff\U00010000\U0001f600\U0010ffff", ""},
		19: {letters + "0123456789 '()+,-./:=?", "\x00\t\n\x1f!\"#$%&*;<>@[\\]^_`{|}~\x7f\u0080\u00a0éſ\u212a\u2019\u3000\uff21\uffff\U00010041\U0001f600"},
		20: {letters + "0123456789 !\"#$%&'()*+,-./:;<=>?@[\\]^_`{|}~\u00a0éÿ", "\x00\t\n\x1f\x7f\u0080\u0085\u009fĀſ\u212a€\ufffd\uffff\U00010041\U000100e9"},
		22: {letters + "0123456789 !\"#$%&'()*+,-./:;<=>?@[\\]^_`{|}~\x00\x01\t\n\r\x1f\x7f", "\u0080\u00a0éÿĀſ\u212a€\ufffd\uffff\U00010041\U0010ffff"},
		26: {letters + "0123456789 !\"#$%&'()*+,-./:;<=>?@[\\]^_`{|}~", "\x00\x01\t\n\r\x1f\x7f\u0080\u00a0éÿĀſ\u212a€\ufffd\uffff\U00010041\U0010ffff"},
		28: {letters + "\x00\x01\t\n\x7f\u0080é€\ud7ff\ue000\ufffd\uffff\U00010000\U0001f600\U0010ffff", ""},
		30: {letters + "\x00\x01\t\n\x7f\u0080é€\ud7ff\ue000\ufffd\ufffe\uffff", "\U00010000\U00010041\U0001f600\U0010ffff"},
	} {
		expectText(t, api.Text{Kind: kind, Value: x.in}, []rune(x.in))
		for _, r := range x.in {
			expectText(t, api.Text{Kind: kind, Value: string(r)}, []rune{r})
		}
		for _, r := range x.out {
			expectNoText(t, api.Text{Kind: kind, Value: string(r)})
			expectNoText(t, api.Text{Kind: kind, Value: "ab" + string(r) + "c"})
		}
	}
}

// P7.1 and P7.2: the empty string is valid for each kind, and has no octets.
func TestEmpty(t *testing.T) {
	for _, kind := range kinds {
		expectText(t, api.Text{Kind: kind}, nil)
		expectEncode(t, api.Text{Kind: kind}, nil, api.OK)
		expectDecode(t, kind, nil, api.Text{Kind: kind}, api.OK)
		expectDecode(t, kind, []byte{}, api.Text{Kind: kind}, api.OK)
		expectDecode(t, kind, make([]byte, 0, 7), api.Text{Kind: kind}, api.OK)
		for _, other := range kinds {
			expectSame(t, api.Text{Kind: kind}, api.Text{Kind: other}, true)
		}
	}
	expectBest(t, "", api.Text{Kind: 19}, api.OK)
	expectFold(t, "", "")
	expectNoText(t, api.Text{})
}

// P7.1: numbers of no kind, whatever the Value and the octets are.
func TestNoKind(t *testing.T) {
	numbers := []int{math.MinInt, math.MinInt32, -256, 12 + 512, 19 + 1024, 1<<16 + 20, 1<<32 + 12, 1<<32 + 22, math.MaxInt32, math.MaxInt}
	for number := -40; number < 300; number++ {
		if !slices.Contains(kinds, number) {
			numbers = append(numbers, number)
		}
	}
	for _, kind := range numbers {
		for _, s := range []string{"", "a", "Ab c", "é", "\U00010000", "\xff", "\xc0\x80"} {
			expectNoText(t, api.Text{Kind: kind, Value: s})
		}
		for _, c := range []string{"", "41", "00 41", "00 00 00 41", "ff", "c0 80", "00 11 00 00", "d8 00"} {
			expectDecode(t, kind, octets(c), api.Text{}, api.ErrTag)
		}
		expectDecode(t, kind, nil, api.Text{}, api.ErrTag)
	}
}

// malformed has strings that are not valid UTF-8.
var malformed = []string{
	"\x80", "\xbf", "\xa9", "\x80\x80", "\xc3", "\xc2", "\xdf", "\xe2", "\xe2\x82", "\xf0", "\xf0\x9f", "\xf0\x9f\x98", "\xf4\x8f\xbf",
	"\xc0\x80", "\xc1\x81", "\xc1\xbf", "\xe0\x80\x80", "\xe0\x81\x81", "\xe0\x9f\xbf", "\xf0\x80\x80\x80", "\xf0\x80\x81\x81", "\xf0\x8f\xbf\xbf", "\xf8\x80\x80\x80\x80", "\xfc\x80\x80\x80\x80\x80",
	"\xed\xa0\x80", "\xed\xaf\xbf", "\xed\xb0\x80", "\xed\xbf\xbf", "\xed\xa0\xbd\xed\xb8\x80",
	"\xf4\x90\x80\x80", "\xf4\xbf\xbf\xbf", "\xf5\x80\x80\x80", "\xf7\xbf\xbf\xbf", "\xf8\x88\x80\x80\x80", "\xfe", "\xff", "\xff\xff", "\xfe\xff", "\xff\xfe",
	"\xc3\x28", "\xc3\xc3\xa9", "\xe2\x28\xa1", "\xe2\x82\x28", "\xf0\x28\x8c\xbc", "\xf0\x90\x28\xbc", "\xf0\x90\x8c\x28", "\xc3\xa9\xa9", "\xef\xbf", "\xef\xbf\xbd\xbd", "\xef\xbf\xbd\xef",
}

// P7.1: Values and octets that are not valid UTF-8, alone and with other characters around them.
func TestMalformedUTF8(t *testing.T) {
	for _, bad := range malformed {
		for _, s := range []string{bad, "a" + bad, bad + "a", "ab" + bad + "c", "é" + bad, bad + "é", "\ufffd" + bad, " " + bad + " ", bad + "\x00"} {
			for _, kind := range kinds {
				expectNoText(t, api.Text{Kind: kind, Value: s})
			}
			expectDecode(t, 12, []byte(s), api.Text{}, api.ErrValue)
			expectBest(t, s, api.Text{}, api.ErrInvalid)
			checkValue(t, s)
		}
	}
}

// P7.1: U+FFFD is a character as others are, and no sign of an error.
func TestReplacementCharacter(t *testing.T) {
	for kind, c := range map[int]string{12: "ef bf bd", 28: "00 00 ff fd", 30: "ff fd"} {
		expectText(t, api.Text{Kind: kind, Value: "\ufffd"}, []rune{0xfffd})
		expectEncode(t, api.Text{Kind: kind, Value: "\ufffd"}, octets(c), api.OK)
		expectDecode(t, kind, octets(c), api.Text{Kind: kind, Value: "\ufffd"}, api.OK)
		expectText(t, api.Text{Kind: kind, Value: "a\ufffd\ufffdb"}, []rune{'a', 0xfffd, 0xfffd, 'b'})
	}
	for _, kind := range []int{19, 20, 22, 26} {
		expectNoText(t, api.Text{Kind: kind, Value: "\ufffd"})
	}
	expectBest(t, "\ufffd", api.Text{Kind: 12, Value: "\ufffd"}, api.OK)
	expectFold(t, " \ufffd  \ufffdA", "\ufffd \ufffda")
	expectSame(t, api.Text{Kind: 12, Value: "\ufffd"}, api.Text{Kind: 30, Value: "\ufffd"}, true)
	expectSame(t, api.Text{Kind: 12, Value: "\ufffd"}, api.Text{Kind: 12, Value: "\xff"}, false)
}

// P7.1 and P7.2, Decode: every octet for each kind, alone and behind another one.
func TestEveryOctet(t *testing.T) {
	for _, kind := range kinds {
		for x := range 256 {
			c := byte(x)
			checkOctets(t, kind, []byte{c})
			checkOctets(t, kind, []byte{'a', c})
			checkOctets(t, kind, []byte{c, 'a'})
			checkOctets(t, kind, []byte{'a', c, 'b', 'c'})
			if valid := has(kind, rune(x)); widthOf(kind) == 1 && valid {
				expectDecode(t, kind, []byte{c}, api.Text{Kind: kind, Value: string(rune(x))}, api.OK)
			} else if widthOf(kind) == 1 {
				expectDecode(t, kind, []byte{c}, api.Text{}, api.ErrValue)
			}
		}
		if widthOf(kind) == 1 && kind != 20 {
			for x := 0x80; x < 0x100; x++ {
				expectDecode(t, kind, []byte{byte(x)}, api.Text{}, api.ErrValue)
			}
		}
	}
	// Characters of two octets in UTF-8 are two others of one octet each.
	expectDecode(t, 20, octets("c3 a9"), api.Text{Kind: 20, Value: "Ã©"}, api.OK)
	expectDecode(t, 20, octets("9f"), api.Text{}, api.ErrValue)
	expectDecode(t, 20, octets("80"), api.Text{}, api.ErrValue)
	expectDecode(t, 20, octets("a0"), api.Text{Kind: 20, Value: "\u00a0"}, api.OK)
	expectDecode(t, 20, octets("7f"), api.Text{}, api.ErrValue)
	expectDecode(t, 22, octets("7f"), api.Text{Kind: 22, Value: "\x7f"}, api.OK)
}

// P7.1 and P7.2, Decode: all pairs of octets as TagBMP.
func TestAllPairs(t *testing.T) {
	for number := range rune(0x10000) {
		checkOctets(t, 30, []byte{byte(number >> 8), byte(number)})
	}
	for _, number := range []string{"d8 00", "d8 3d", "db ff", "dc 00", "df ff"} {
		expectDecode(t, 30, octets(number), api.Text{}, api.ErrValue)
		expectDecode(t, 30, octets("00 41"+number), api.Text{}, api.ErrValue)
		expectDecode(t, 30, octets(number+"00 41"), api.Text{}, api.ErrValue)
	}
	// A pair of surrogates is no character here.
	expectDecode(t, 30, octets("d8 3d de 00"), api.Text{}, api.ErrValue)
	expectDecode(t, 30, octets("ff ff"), api.Text{Kind: 30, Value: "\uffff"}, api.OK)
}

// P7.1 and P7.2, Decode: four octets as TagUniversal, among them those of surrogates and above 10ffff.
func TestFourOctets(t *testing.T) {
	for _, x := range []struct {
		c     string
		value string
	}{
		{"00 00 00 00", "\x00"},
		{"00 00 00 41", "A"},
		{"00 00 d7 ff", "\ud7ff"},
		{"00 00 e0 00", "\ue000"},
		{"00 00 ff ff", "\uffff"},
		{"00 01 00 00", "\U00010000"},
		{"00 01 00 41", "\U00010041"},
		{"00 01 d8 00", "\U0001d800"},
		{"00 10 ff ff", "\U0010ffff"},
	} {
		expectDecode(t, 28, octets(x.c), api.Text{Kind: 28, Value: x.value}, api.OK)
		expectEncode(t, api.Text{Kind: 28, Value: x.value}, octets(x.c), api.OK)
		checkOctets(t, 28, octets("00 00 00 41"+x.c))
	}
	for _, c := range []string{"00 00 d8 00", "00 00 db ff", "00 00 dc 00", "00 00 df ff", "00 11 00 00", "00 11 00 41", "00 1f ff ff", "00 20 00 00", "00 80 00 41", "00 ff ff fd", "01 00 00 00", "01 00 00 41", "10 00 00 41", "7f ff ff ff", "80 00 00 00", "80 00 00 41", "80 00 ff fd", "ff 00 00 41", "ff ff ff 41", "ff ff ff ff", "ff 10 ff ff", "41 00 00 00"} {
		expectDecode(t, 28, octets(c), api.Text{}, api.ErrValue)
		expectDecode(t, 28, octets("00 00 00 41"+c), api.Text{}, api.ErrValue)
		expectDecode(t, 28, octets(c+"00 00 00 41"), api.Text{}, api.ErrValue)
	}
	for _, c := range grown(4, []byte{0, 1, 0x10, 0x11, 0x41, 0x7f, 0x80, 0xd7, 0xd8, 0xdf, 0xe0, 0xff}) {
		checkOctets(t, 28, c)
		checkOctets(t, 30, c)
	}
}

// P7.1, Decode: contents octets whose number is no multiple of two or four.
func TestOddOctets(t *testing.T) {
	for length := range 40 {
		c := bytes.Repeat([]byte{0, 0, 0, 0x41}, 10)[:length]
		for _, x := range []struct{ kind, width int }{{28, 4}, {30, 2}} {
			if length%x.width != 0 {
				expectDecode(t, x.kind, c, api.Text{}, api.ErrValue)
			} else {
				checkOctets(t, x.kind, c)
			}
			if text, code := charset.Decode(x.kind, c); code == api.OK && charset.Len(text) != length/x.width {
				t.Errorf("Decode(%d, %x) = %q", x.kind, c, text.Value)
			}
		}
	}
	expectDecode(t, 30, octets("41"), api.Text{}, api.ErrValue)
	expectDecode(t, 30, octets("00 41 00"), api.Text{}, api.ErrValue)
	expectDecode(t, 28, octets("00 41"), api.Text{}, api.ErrValue)
	expectDecode(t, 28, octets("00 00 00 41 00 00"), api.Text{}, api.ErrValue)
}

// P7.1 and P7.2: all short sequences of octets that occur in UTF-8, as octets of each kind and as Values.
func TestAllShortOctets(t *testing.T) {
	for _, c := range grown(3, []byte{0, 0x20, 0x41, 0x7f, 0x80, 0x8f, 0x90, 0x9f, 0xa0, 0xbf, 0xc0, 0xc1, 0xc2, 0xdf, 0xe0, 0xe1, 0xed, 0xef, 0xf0, 0xf4, 0xf5, 0xff}) {
		for _, kind := range kinds {
			checkOctets(t, kind, c)
		}
		checkText(t, api.Text{Kind: 12, Value: string(c)})
		checkText(t, api.Text{Kind: 20, Value: string(c)})
	}
	for _, first := range []byte{0xef, 0xf0, 0xf1, 0xf3, 0xf4, 0xf5} {
		for _, c := range grown(3, []byte{0x41, 0x7f, 0x80, 0x8f, 0x90, 0x9f, 0xa0, 0xbf, 0xc0}) {
			checkOctets(t, 12, join([]byte{first}, c))
			checkText(t, api.Text{Kind: 28, Value: string(join([]byte{first}, c))})
		}
	}
}

// P7.2: no two contents octets of a kind are decoded as the same character string.
func TestDecodedOnce(t *testing.T) {
	found := map[api.Text][]byte{}
	for _, c := range grown(4, []byte{0, 0x20, 0x41, 0x61, 0x80, 0xa0, 0xc0, 0xc2, 0xc3, 0xff}) {
		for _, kind := range kinds {
			text, code := charset.Decode(kind, c)
			if code != api.OK {
				continue
			}
			if other, ok := found[text]; ok {
				t.Errorf("%x and %x are both decoded as %d, %q", other, c, kind, text.Value)
			}
			found[text] = c
		}
	}
	if len(found) < 5000 {
		t.Errorf("only %d character strings are decoded", len(found))
	}
}

// randomRunes returns characters of a kind, more often those of the short ranges and of the edges.
func randomRunes(source *rand.Rand, kind, length int) []rune {
	var runes []rune
	for len(runes) < length {
		all := spans(kind)
		s := all[source.Intn(len(all))]
		r := s.first + source.Int31n(s.last-s.first+1)
		switch source.Intn(6) {
		case 0:
			r = s.first
		case 1:
			r = s.last
		case 2:
			r = source.Int31n(0x100)
		case 3:
			r = ' '
		}
		if has(kind, r) {
			runes = append(runes, r)
		}
	}
	return runes
}

// P7.1 and P7.2: random character strings of all kinds, and what becomes of them with one octet changed.
func TestRandomTexts(t *testing.T) {
	source := rand.New(rand.NewSource(7))
	for range 2000 {
		for _, kind := range kinds {
			runes := randomRunes(source, kind, source.Intn(12))
			text := api.Text{Kind: kind, Value: valueOf(runes)}
			expectText(t, text, runes)
			for _, other := range kinds {
				checkText(t, api.Text{Kind: other, Value: text.Value})
			}
			expectFold(t, text.Value, folded(text.Value))
			c := contentsOf(kind, runes)
			if len(c) > 0 {
				c[source.Intn(len(c))] = byte(source.Intn(256))
				checkOctets(t, kind, c)
				checkValue(t, string(c))
				checkOctets(t, kind, c[:source.Intn(len(c))])
			}
		}
	}
}

// P7.1 and P7.2: random octets.
func TestRandomOctets(t *testing.T) {
	source := rand.New(rand.NewSource(8))
	for range 5000 {
		c := make([]byte, source.Intn(9))
		source.Read(c)
		for _, kind := range kinds {
			checkOctets(t, kind, c)
		}
		checkValue(t, string(c))
	}
}

// P7.1: character strings of many characters.
func TestLong(t *testing.T) {
	for _, kind := range kinds {
		long := strings.Repeat("Ab  'c", 1<<18)
		text := api.Text{Kind: kind, Value: long}
		runes := []rune(long)
		expectText(t, text, runes)
		expectFold(t, long, strings.Repeat("ab 'c", 1<<18))
		expectLen(t, text, 6<<18)
		for _, s := range []string{long + "\xff", "\xc3" + long, long + "\xc3"} {
			expectNoText(t, api.Text{Kind: kind, Value: s})
		}
		c := contentsOf(kind, runes)
		expectDecode(t, kind, append(c, 0x80), api.Text{}, api.ErrValue)
	}
	expectFold(t, strings.Repeat(" ", 1<<20), "")
	expectFold(t, "A"+strings.Repeat(" ", 1<<20)+"B", "a b")
}

// P7.1, Best: TagPrintable for those that are, and TagUTF8 for all others.
func TestBest(t *testing.T) {
	for s, kind := range map[string]int{
		"":                        19,
		" ":                       19,
		"a":                       19,
		"Ab C":                    19,
		"A1'()+,-./:=? z":         19,
		"a  b ":                   19,
		"a@b":                     12,
		"a*b":                     12,
		"a_b":                     12,
		"a&b":                     12,
		"a;b":                     12,
		"a<b":                     12,
		"a\x00":                   12,
		"a\n":                     12,
		"\x7f":                    12,
		"\"":                      12,
		"é":                       12,
		"\u0080":                  12,
		"\ufffd":                  12,
		"\uffff":                  12,
		"\U00010000":              12,
		"\U0010ffff":              12,
		"abc\U0001f600":           12,
		strings.Repeat("a", 9999): 19,
	} {
		expectBest(t, s, api.Text{Kind: kind, Value: s}, api.OK)
		checkValue(t, s)
	}
	for _, s := range malformed {
		expectBest(t, s, api.Text{}, api.ErrInvalid)
		expectBest(t, "a"+s, api.Text{}, api.ErrInvalid)
		expectBest(t, "é"+s, api.Text{}, api.ErrInvalid)
	}
}

// P7.1, Len: characters are counted, not octets.
func TestLen(t *testing.T) {
	for _, x := range []struct {
		kind int
		s    string
		want int
	}{
		{12, "", 0}, {12, "a", 1}, {12, "é", 1}, {12, "€", 1}, {12, "\U0001f600", 1}, {12, "aé€\U0001f600", 4}, {12, "e\u0301", 2}, {12, "a  b ", 5}, {12, "\x00", 1},
		{19, "Ab c", 4}, {20, "éÿ", 2}, {22, "\x00\x7f", 2}, {26, " ~", 2}, {28, "a\U0001f600", 2}, {30, "é€", 2},
		{19, "é", 0}, {20, "€", 0}, {22, "aé", 0}, {26, "a\n", 0}, {30, "ab\U0001f600", 0}, {12, "ab\xff", 0}, {28, "\xed\xa0\x80", 0},
		{0, "ab", 0}, {-1, "ab", 0}, {13, "ab", 0}, {4, "ab", 0},
	} {
		expectLen(t, api.Text{Kind: x.kind, Value: x.s}, x.want)
	}
}

// P7.1, Fold: letters, and spaces at the beginning, at the end and in between; no other characters.
func TestFold(t *testing.T) {
	for s, want := range map[string]string{
		" ":                            "",
		"  ":                           "",
		"         ":                    "",
		"a":                            "a",
		"A":                            "a",
		"Z":                            "z",
		" a":                           "a",
		"a ":                           "a",
		"   a":                         "a",
		"a   ":                         "a",
		"   a   ":                      "a",
		"a b":                          "a b",
		"a  b":                         "a b",
		"a    b":                       "a b",
		"  A   B    C  ":               "a b c",
		"a b c":                        "a b c",
		"ABCDEFGHIJKLMNOPQRSTUVWXYZ":   "abcdefghijklmnopqrstuvwxyz",
		"abcdefghijklmnopqrstuvwxyz":   "abcdefghijklmnopqrstuvwxyz",
		"@[`{09":                       "@[`{09",
		"É":                            "É",
		"ÀÉÿſİı":                       "ÀÉÿſİı",
		"\u212a":                       "\u212a",
		"ΑΒ":                           "ΑΒ",
		"\u00a0A\u00a0":                "\u00a0a\u00a0",
		"A\u00a0 \u00a0B":              "a\u00a0 \u00a0b",
		"\tA\t\tB\n":                   "\ta\t\tb\n",
		" \t A \t ":                    "\t a \t",
		"\u2003A\u3000\u3000B":         "\u2003a\u3000\u3000b",
		"\x00 \x00  \x00":              "\x00 \x00 \x00",
		" \U0001f600  \U0001f600 ":     "\U0001f600 \U0001f600",
		"\xff":                         "\xff",
		"\xff  \xffA ":                 "\xff \xffa",
		" \xc3 ":                       "\xc3",
		"\xc3  \xa9":                   "\xc3 \xa9",
		"\x80\xbfA\xe2\x82":            "\x80\xbfa\xe2\x82",
		"\xed\xa0\x80 B  \xf4\x90":     "\xed\xa0\x80 b \xf4\x90",
		"A" + strings.Repeat(" ", 500): "a",
	} {
		expectFold(t, s, want)
		expectFold(t, want, want)
	}
}

// P7.1, Fold: all octets, and all short strings of letters and spaces; a folded string stays as it is.
func TestFoldAll(t *testing.T) {
	for x := range 256 {
		octet := byte(x)
		want := octet
		if octet >= 0x41 && octet <= 0x5a {
			want += 0x20
		}
		if octet != ' ' {
			expectFold(t, string([]byte{octet}), string([]byte{want}))
		}
		expectFold(t, string([]byte{'A', octet, 'B'}), string([]byte{'a', want, 'b'}))
	}
	for _, s := range grown(7, []byte(" Ab\xff")) {
		once := charset.Fold(string(s))
		expectFold(t, string(s), folded(string(s)))
		expectFold(t, once, once)
		if strings.HasPrefix(once, " ") || strings.HasSuffix(once, " ") || strings.Contains(once, "  ") || strings.Contains(once, "A") {
			t.Fatalf("Fold(%q) = %q", s, once)
		}
	}
}

// P7.1, Same: whether folded Values are equal.
func TestSame(t *testing.T) {
	for _, x := range []struct {
		a, b string
		want bool
	}{
		{"", "", true},
		{"", " ", true},
		{"   ", " ", true},
		{"", "a", false},
		{"a", "a", true},
		{"a", "A", true},
		{"Ab", "aB", true},
		{"a", "b", false},
		{"a", "aa", false},
		{" a", "a", true},
		{"a ", "a", true},
		{"  a  b ", "A B", true},
		{"ab", "a b", false},
		{"a b", "a  b", true},
		{"a-b", "a b", false},
		{"a", "a.", false},
	} {
		for _, kind := range kinds {
			for _, other := range kinds {
				expectSame(t, api.Text{Kind: kind, Value: x.a}, api.Text{Kind: other, Value: x.b}, x.want)
				expectSame(t, api.Text{Kind: kind, Value: x.b}, api.Text{Kind: other, Value: x.a}, x.want)
			}
		}
	}
	for _, x := range []struct {
		a, b string
		want bool
	}{
		{"é", "é", true}, {"é", "É", false}, {"é", "e\u0301", false}, {"e", "é", false}, {"\u212a", "k", false}, {"ſ", "s", false}, {"a\tb", "a b", false}, {"a\u00a0b", "a b", false}, {"A\t", "a\t", true}, {" \ufffdX", "\ufffdx ", true},
	} {
		expectSame(t, api.Text{Kind: 12, Value: x.a}, api.Text{Kind: 28, Value: x.b}, x.want)
		expectSame(t, api.Text{Kind: 30, Value: x.b}, api.Text{Kind: 12, Value: x.a}, x.want)
	}
}

// P7.1 and P7.3: Same is false if one character string, or both, are not valid, even if they are equal.
func TestSameInvalid(t *testing.T) {
	invalid := []api.Text{{}, {Value: "a"}, {Kind: 13, Value: "a"}, {Kind: -12, Value: "a"}, {Kind: 19, Value: "a@"}, {Kind: 20, Value: "\u0080"}, {Kind: 22, Value: "é"}, {Kind: 26, Value: "a\n"}, {Kind: 30, Value: "\U00010000"}, {Kind: 12, Value: "\xff"}, {Kind: 28, Value: "a\xc3"}}
	for _, a := range invalid {
		for _, b := range invalid {
			expectSame(t, a, b, false)
		}
		for _, kind := range kinds {
			for _, s := range []string{"", "a", a.Value} {
				b := api.Text{Kind: kind, Value: s}
				expectSame(t, a, b, false)
				expectSame(t, b, a, false)
			}
		}
	}
}

// P7.3: Same is reflexive, symmetric and transitive for valid character strings, and does not depend on their kinds.
func TestEquivalence(t *testing.T) {
	var texts []api.Text
	for _, s := range []string{"", " ", "   ", "a", "A", " a", "A ", "  a  ", "b", "ab", "aB", "AB ", "a b", "A  B", " a   b ", "a c", "@", " @", "é", "É", " é", "\x00", "\u00a0", "€", "\ufffd", "\U0001f600", "\U0001f600 "} {
		for _, kind := range kinds {
			if text := (api.Text{Kind: kind, Value: s}); charset.Valid(text) {
				texts = append(texts, text)
			}
		}
	}
	if len(texts) < 100 {
		t.Fatalf("only %d character strings", len(texts))
	}
	for _, a := range texts {
		expectSame(t, a, a, true)
		for _, b := range texts {
			same := charset.Same(a, b)
			expectSame(t, b, a, same)
			expectSame(t, a, b, folded(a.Value) == folded(b.Value))
			for _, c := range texts {
				if same && charset.Same(b, c) && !charset.Same(a, c) {
					t.Fatalf("%v, %v and %v", a, b, c)
				}
				// Equal Values of other kinds are in the same class.
				if c.Value == b.Value && charset.Same(a, c) != same {
					t.Fatalf("%v is the same as one of %v and %v only", a, b, c)
				}
			}
		}
	}
}

// P7.1 with rule 5: neither the octets nor their unused capacity are modified, and later changes of them do not change a result.
func TestArgumentsStay(t *testing.T) {
	for _, x := range []struct {
		kind int
		c    string
	}{{12, "41 c3 a9"}, {12, "41 c3"}, {12, ""}, {19, "41 20 42"}, {19, "41 40"}, {20, "41 e9"}, {22, "00 7f"}, {26, "20 7e"}, {28, "00 00 00 41 00 01 f6 00"}, {28, "00 11 00 00"}, {30, "00 41 20 ac"}, {30, "d8 00"}, {30, "00"}, {13, "41"}} {
		whole := octets(x.c)
		room := join([]byte{0x81, 0x82}, whole, []byte{1, 2, 3, 4, 5, 6, 7, 8, 9})
		want := bytes.Clone(room)
		text, code := charset.Decode(x.kind, room[2:2+len(whole)])
		kept := strings.Clone(text.Value)
		if !bytes.Equal(room, want) {
			t.Errorf("the octets around %s became %x", x.c, room)
		}
		scribble(room, 99)
		if text.Value != kept {
			t.Errorf("the Value of %s became %q", x.c, text.Value)
		}
		expectDecode(t, x.kind, whole, text, code)
	}
}

// P7.1 with rules 5 and 7: later changes of octets that Encode returned change no other result.
func TestResultsAreIndependent(t *testing.T) {
	for _, kind := range kinds {
		text := api.Text{Kind: kind, Value: strings.Clone("Ab 'c")}
		kept, _ := charset.Encode(text)
		other, _ := charset.Encode(text)
		scribble(other, 99)
		_ = append(other[:0], 77, 77, 77, 77, 77, 77)
		if text.Value != "Ab 'c" || !bytes.Equal(kept, contentsOf(kind, []rune("Ab 'c"))) {
			t.Errorf("%v became %x", text, kept)
		}
		expectEncode(t, text, kept, api.OK)
	}
}

// P7.1 with rule 8: the functions may be called concurrently.
func TestConcurrentCalls(t *testing.T) {
	for i := range 8 {
		t.Run(fmt.Sprint(i), func(t *testing.T) {
			t.Parallel()
			source := rand.New(rand.NewSource(int64(i)))
			for range 100 {
				for _, kind := range charset.Kinds() {
					runes := randomRunes(source, kind, 6)
					expectText(t, api.Text{Kind: kind, Value: valueOf(runes)}, runes)
					checkValue(t, valueOf(runes))
				}
			}
		})
	}
}
