package clock_test

import (
	"bytes"
	"fmt"
	"math"
	"math/rand"
	"regexp"
	"slices"
	"strconv"
	"strings"
	"testing"
	"time"

	"cretula/api"
	"cretula/clock"
)

// first and last are the least and the greatest seconds of a valid point in time.
const (
	first = -62167219200
	last  = 253402300799
)

// extremes are ints that no field may have, those that would be in its limits if they lost their high bits among them.
var extremes = []int{math.MinInt, math.MinInt + 1, math.MinInt32, -1 << 32, -1<<32 + 1, -256, -255, -100, -60, -24, -12, -2, -1, 10001, 10256, 1 << 16, 1<<16 + 1, math.MaxInt32, 1 << 32, 1<<32 + 1, 1<<32 + 5, 1 << 40, math.MaxInt - 1, math.MaxInt}

// fieldCount is the number of fields of a point in time.
const fieldCount = 6

// made returns the point in time with these fields.
func made(f [fieldCount]int) api.Time {
	return api.Time{Year: f[0], Month: f[1], Day: f[2], Hour: f[3], Minute: f[4], Second: f[5]}
}

// fieldsOf returns the fields of a point in time in their order.
func fieldsOf(x api.Time) [fieldCount]int {
	return [fieldCount]int{x.Year, x.Month, x.Day, x.Hour, x.Minute, x.Second}
}

// at returns the point in time that a text has in decimal numbers with spaces between them.
func at(text string) api.Time {
	var f [fieldCount]int
	for i, word := range strings.Fields(text) {
		n, err := strconv.Atoi(word)
		if err != nil {
			panic(err)
		}
		f[i] = n
	}
	return made(f)
}

// with returns a point in time with another value of the field i.
func with(x api.Time, i, value int) api.Time {
	f := fieldsOf(x)
	f[i] = value
	return made(f)
}

// daysOf returns the number of days of a month, by the definition of the Gregorian calendar; 0 if there is no such month or year.
func daysOf(year, month int) int {
	if year < 0 || year > 9999 {
		return 0
	}
	switch month {
	case 1, 3, 5, 7, 8, 10, 12:
		return 31
	case 4, 6, 9, 11:
		return 30
	case 2:
		switch {
		case year%400 == 0:
			return 29
		case year%100 == 0:
			return 28
		case year%4 == 0:
			return 29
		}
		return 28
	}
	return 0
}

// isValid reports whether a point in time is valid, by the definition.
func isValid(x api.Time) bool {
	for i, limits := range [fieldCount][2]int{{0, 9999}, {1, 12}, {1, daysOf(x.Year, x.Month)}, {0, 23}, {0, 59}, {0, 59}} {
		if n := fieldsOf(x)[i]; n < limits[0] || n > limits[1] {
			return false
		}
	}
	return true
}

// stamp returns a valid point in time as a time of the Go library, whose days have 86400 seconds too.
func stamp(x api.Time) time.Time {
	return time.Date(x.Year, time.Month(x.Month), x.Day, x.Hour, x.Minute, x.Second, 0, time.UTC)
}

// utcOf and generalOf return the contents octets of a valid point in time.
func utcOf(x api.Time) []byte { return []byte(stamp(x).Format("060102150405Z")) }

func generalOf(x api.Time) []byte { return []byte(stamp(x).Format("20060102150405Z")) }

var utcSyntax = regexp.MustCompile(`\A([0-9]{2})([0-9]{2})([0-9]{2})([0-9]{2})([0-9]{2})([0-9]{2})Z\z`)

var generalSyntax = regexp.MustCompile(`\A([0-9]{4})([0-9]{2})([0-9]{2})([0-9]{2})([0-9]{2})([0-9]{2})Z\z`)

// read returns the fields that a syntax finds in contents octets, and whether it fits.
func read(syntax *regexp.Regexp, c []byte) (api.Time, bool) {
	parts := syntax.FindSubmatch(c)
	if parts == nil {
		return api.Time{}, false
	}
	var f [fieldCount]int
	for i, part := range parts[1:] {
		f[i], _ = strconv.Atoi(string(part))
	}
	return made(f), true
}

// utcIn returns the valid point in time with these contents octets of a UTCTime, and whether there is one, by the definition.
func utcIn(c []byte) (api.Time, bool) {
	x, ok := read(utcSyntax, c)
	if !ok {
		return api.Time{}, false
	}
	for year := 1950; year <= 2049; year++ {
		if y := with(x, 0, year); year%100 == x.Year && isValid(y) {
			return y, true
		}
	}
	return api.Time{}, false
}

// generalIn returns the valid point in time with these contents octets of a GeneralizedTime, and whether there is one, by the definition.
func generalIn(c []byte) (api.Time, bool) {
	x, ok := read(generalSyntax, c)
	if !ok || !isValid(x) {
		return api.Time{}, false
	}
	return x, true
}

func expectDays(t *testing.T, year, month, want int) {
	t.Helper()
	if got := clock.Days(year, month); got != want {
		t.Errorf("Days(%d, %d) = %d, want %d", year, month, got, want)
	}
}

func expectEncodeUTC(t *testing.T, x api.Time, want []byte, wantCode api.Code) {
	t.Helper()
	if c, code := clock.EncodeUTC(x); !bytes.Equal(c, want) || code != wantCode {
		t.Errorf("EncodeUTC(%v) = %q, %v, want %q, %v", x, c, code, want, wantCode)
	}
}

func expectEncodeGeneral(t *testing.T, x api.Time, want []byte, wantCode api.Code) {
	t.Helper()
	if c, code := clock.EncodeGeneral(x); !bytes.Equal(c, want) || code != wantCode {
		t.Errorf("EncodeGeneral(%v) = %q, %v, want %q, %v", x, c, code, want, wantCode)
	}
}

func expectDecodeUTC(t *testing.T, c []byte, want api.Time, wantCode api.Code) {
	t.Helper()
	if x, code := clock.DecodeUTC(c); x != want || code != wantCode {
		t.Errorf("DecodeUTC(%q) = %v, %v, want %v, %v", c, x, code, want, wantCode)
	}
}

func expectDecodeGeneral(t *testing.T, c []byte, want api.Time, wantCode api.Code) {
	t.Helper()
	if x, code := clock.DecodeGeneral(c); x != want || code != wantCode {
		t.Errorf("DecodeGeneral(%q) = %v, %v, want %v, %v", c, x, code, want, wantCode)
	}
}

func expectCompare(t *testing.T, a, b api.Time, want int) {
	t.Helper()
	if got := clock.Compare(a, b); got != want {
		t.Errorf("Compare(%v, %v) = %d, want %d", a, b, got, want)
	}
}

func expectSeconds(t *testing.T, x api.Time, want int64, wantCode api.Code) {
	t.Helper()
	if n, code := clock.Seconds(x); n != want || code != wantCode {
		t.Errorf("Seconds(%v) = %d, %v, want %d, %v", x, n, code, want, wantCode)
	}
}

func expectFromSeconds(t *testing.T, n int64, want api.Time, wantCode api.Code) {
	t.Helper()
	if x, code := clock.FromSeconds(n); x != want || code != wantCode {
		t.Errorf("FromSeconds(%d) = %v, %v, want %v, %v", n, x, code, want, wantCode)
	}
}

// expectTime checks what all functions say of a valid point in time.
func expectTime(t *testing.T, x api.Time) {
	t.Helper()
	if !clock.Valid(x) {
		t.Errorf("Valid(%v) = false", x)
	}
	general, utc := generalOf(x), utcOf(x)
	expectEncodeGeneral(t, x, general, api.OK)
	expectDecodeGeneral(t, general, x, api.OK)
	if x.Year >= 1950 && x.Year <= 2049 {
		expectEncodeUTC(t, x, utc, api.OK)
		expectDecodeUTC(t, utc, x, api.OK)
	} else {
		expectEncodeUTC(t, x, nil, api.ErrRange)
	}
	expectSeconds(t, x, stamp(x).Unix(), api.OK)
	expectFromSeconds(t, stamp(x).Unix(), x, api.OK)
	expectCompare(t, x, x, 0)
}

// expectNoTime checks what all functions say of a point in time that is not valid.
func expectNoTime(t *testing.T, x api.Time) {
	t.Helper()
	if clock.Valid(x) {
		t.Errorf("Valid(%v) = true", x)
	}
	expectEncodeUTC(t, x, nil, api.ErrInvalid)
	expectEncodeGeneral(t, x, nil, api.ErrInvalid)
	expectSeconds(t, x, 0, api.ErrInvalid)
	expectCompare(t, x, x, 0)
}

// checkTime compares all functions with the definitions, for any point in time.
func checkTime(t *testing.T, x api.Time) bool {
	t.Helper()
	ok := isValid(x)
	if ok {
		expectTime(t, x)
	} else {
		expectNoTime(t, x)
	}
	return ok
}

// checkOctets compares both Decode functions with the definitions, for any octets, and what they return with the Encode functions.
func checkOctets(t *testing.T, c []byte) {
	t.Helper()
	if x, ok := utcIn(c); ok {
		expectDecodeUTC(t, c, x, api.OK)
		expectEncodeUTC(t, x, c, api.OK)
	} else {
		expectDecodeUTC(t, c, api.Time{}, api.ErrValue)
	}
	if x, ok := generalIn(c); ok {
		expectDecodeGeneral(t, c, x, api.OK)
		expectEncodeGeneral(t, x, c, api.OK)
	} else {
		expectDecodeGeneral(t, c, api.Time{}, api.ErrValue)
	}
}

// checkCompare compares Compare with the definition, in both directions.
func checkCompare(t *testing.T, a, b api.Time) {
	t.Helper()
	f, g := fieldsOf(a), fieldsOf(b)
	want := slices.Compare(f[:], g[:])
	expectCompare(t, a, b, want)
	expectCompare(t, b, a, -want)
}

// checkSeconds compares FromSeconds with the Go library, and what it returns with Seconds.
func checkSeconds(t *testing.T, n int64) {
	t.Helper()
	if n < first || n > last {
		expectFromSeconds(t, n, api.Time{}, api.ErrRange)
		return
	}
	s := time.Unix(n, 0).UTC()
	x := api.Time{Year: s.Year(), Month: int(s.Month()), Day: s.Day(), Hour: s.Hour(), Minute: s.Minute(), Second: s.Second()}
	expectFromSeconds(t, n, x, api.OK)
	expectSeconds(t, x, n, api.OK)
	if !isValid(x) {
		t.Errorf("the point in time %v with the seconds %d is not valid", x, n)
	}
}

// randomTime returns a valid point in time of any year, with the same chance for each second.
func randomTime(source *rand.Rand) api.Time {
	s := time.Unix(first+source.Int63n(last-first+1), 0).UTC()
	return api.Time{Year: s.Year(), Month: int(s.Month()), Day: s.Day(), Hour: s.Hour(), Minute: s.Minute(), Second: s.Second()}
}

// ordinary are valid points in time with fields at their limits and between them, in ascending order.
func ordinary() []api.Time {
	var all []api.Time
	for _, year := range []int{0, 1, 4, 99, 100, 399, 400, 1600, 1899, 1900, 1949, 1950, 1969, 1970, 1999, 2000, 2024, 2049, 2050, 2100, 9996, 9999} {
		for _, month := range []int{1, 2, 3, 11, 12} {
			for _, day := range []int{1, 2, daysOf(year, month)} {
				for _, clockTime := range [][3]int{{0, 0, 0}, {0, 0, 59}, {0, 59, 0}, {12, 34, 56}, {23, 0, 1}, {23, 59, 59}} {
					all = append(all, made([fieldCount]int{year, month, day, clockTime[0], clockTime[1], clockTime[2]}))
				}
			}
		}
	}
	return all
}

// P8.1, the examples of the chapter.
func TestExamples(t *testing.T) {
	expectEncodeUTC(t, at("2000 1 1"), []byte("000101000000Z"), api.OK)
	expectDecodeUTC(t, []byte("000101000000Z"), at("2000 1 1"), api.OK)
	expectEncodeUTC(t, at("1950 1 1"), []byte("500101000000Z"), api.OK)
	expectDecodeUTC(t, []byte("500101000000Z"), at("1950 1 1"), api.OK)
	expectEncodeUTC(t, at("2050 1 1"), nil, api.ErrRange)
	expectDecodeGeneral(t, []byte("20230229000000Z"), api.Time{}, api.ErrValue)
	expectSeconds(t, at("1970 1 1"), 0, api.OK)
	expectFromSeconds(t, 0, at("1970 1 1"), api.OK)
	expectSeconds(t, at("2000 1 1"), 946684800, api.OK)
	expectFromSeconds(t, 946684800, at("2000 1 1"), api.OK)
}

// P8.1, P8.2: points in time with their octets and their seconds written out, the years at their limits among them.
func TestTimes(t *testing.T) {
	for _, x := range []struct {
		at      string
		utc     string
		general string
		seconds int64
	}{
		{"0 1 1 0 0 0", "", "00000101000000Z", first},
		{"0 1 1 0 0 1", "", "00000101000001Z", first + 1},
		{"0 2 29 0 0 0", "", "00000229000000Z", first + 59*86400},
		{"0 12 31 23 59 59", "", "00001231235959Z", first + 366*86400 - 1},
		{"1 1 1 0 0 0", "", "00010101000000Z", -62135596800},
		{"1582 10 10 0 0 0", "", "15821010000000Z", -12219724800},
		{"1900 2 28 23 59 59", "", "19000228235959Z", -2203891201},
		{"1900 3 1 0 0 0", "", "19000301000000Z", -2203891200},
		{"1949 12 31 23 59 59", "", "19491231235959Z", -631152001},
		{"1950 1 1 0 0 0", "500101000000Z", "19500101000000Z", -631152000},
		{"1969 12 31 23 59 59", "691231235959Z", "19691231235959Z", -1},
		{"1970 1 1 0 0 0", "700101000000Z", "19700101000000Z", 0},
		{"1970 1 1 0 0 59", "700101000059Z", "19700101000059Z", 59},
		{"1970 1 1 0 1 0", "700101000100Z", "19700101000100Z", 60},
		{"1970 1 1 0 59 59", "700101005959Z", "19700101005959Z", 3599},
		{"1970 1 1 1 0 0", "700101010000Z", "19700101010000Z", 3600},
		{"1970 1 1 23 59 59", "700101235959Z", "19700101235959Z", 86399},
		{"1970 1 2 0 0 0", "700102000000Z", "19700102000000Z", 86400},
		{"1970 2 1 0 0 0", "700201000000Z", "19700201000000Z", 31 * 86400},
		{"1999 12 31 23 59 59", "991231235959Z", "19991231235959Z", 946684799},
		{"2000 1 1 0 0 0", "000101000000Z", "20000101000000Z", 946684800},
		{"2000 2 29 12 34 56", "000229123456Z", "20000229123456Z", 951827696},
		{"2001 9 9 1 46 40", "010909014640Z", "20010909014640Z", 1000000000},
		{"2009 2 13 23 31 30", "090213233130Z", "20090213233130Z", 1234567890},
		{"2038 1 19 3 14 7", "380119031407Z", "20380119031407Z", 1<<31 - 1},
		{"2038 1 19 3 14 8", "380119031408Z", "20380119031408Z", 1 << 31},
		{"2049 12 31 23 59 59", "491231235959Z", "20491231235959Z", 2524607999},
		{"2050 1 1 0 0 0", "", "20500101000000Z", 2524608000},
		{"2106 2 7 6 28 16", "", "21060207062816Z", 1 << 32},
		{"9999 1 1 0 0 0", "", "99990101000000Z", last + 1 - 365*86400},
		{"9999 12 31 23 59 59", "", "99991231235959Z", last},
	} {
		y := at(x.at)
		expectTime(t, y)
		expectEncodeGeneral(t, y, []byte(x.general), api.OK)
		expectDecodeGeneral(t, []byte(x.general), y, api.OK)
		expectSeconds(t, y, x.seconds, api.OK)
		expectFromSeconds(t, x.seconds, y, api.OK)
		if x.utc == "" {
			expectEncodeUTC(t, y, nil, api.ErrRange)
		} else {
			expectEncodeUTC(t, y, []byte(x.utc), api.OK)
			expectDecodeUTC(t, []byte(x.utc), y, api.OK)
		}
	}
	for _, x := range ordinary() {
		expectTime(t, x)
	}
}

// P8.1, Days: all months, also those just outside.
func TestDays(t *testing.T) {
	leapYears := 0
	for year := -500; year <= 10500; year++ {
		for month := -20; month <= 40; month++ {
			want := 0
			if year >= 0 && year <= 9999 && month >= 1 && month <= 12 {
				// The day 0 of the next month is the last one of this month.
				want = time.Date(year, time.Month(month+1), 0, 0, 0, 0, 0, time.UTC).Day()
			}
			expectDays(t, year, month, want)
			if want != daysOf(year, month) {
				t.Fatalf("the tests disagree about %d-%d", year, month)
			}
		}
		if clock.Days(year, 2) == 29 {
			leapYears++
		}
	}
	if leapYears != 2425 {
		t.Errorf("there are %d leap years, want 2425", leapYears)
	}
	for month, want := range []int{0, 31, 28, 31, 30, 31, 30, 31, 31, 30, 31, 30, 31, 0} {
		expectDays(t, 2023, month, want)
	}
	for year, want := range map[int]int{-4: 0, -1: 0, 0: 29, 1: 28, 4: 29, 100: 28, 400: 29, 1600: 29, 1700: 28, 1900: 28, 1996: 29, 1999: 28, 2000: 29, 2023: 28, 2024: 29, 2100: 28, 9996: 29, 9999: 28, 10000: 0, 10004: 0} {
		expectDays(t, year, 2, want)
	}
}

// P8.1, Days: years and months far outside their ranges.
func TestDaysOutside(t *testing.T) {
	for _, n := range extremes {
		for month := range 14 {
			expectDays(t, n, month, 0)
		}
		for _, year := range []int{-1, 0, 1, 4, 1900, 2000, 2023, 9999, 10000} {
			expectDays(t, year, n, 0)
		}
		for _, other := range extremes {
			expectDays(t, n, other, 0)
		}
	}
}

// P8.1: each field at its limits and just outside of them, with the other fields valid: ErrInvalid ahead of ErrRange.
func TestLimits(t *testing.T) {
	counts := map[bool]int{}
	for _, x := range append(ordinary(), at("1900 2 28"), at("2023 2 28"), at("2024 2 29"), at("2000 4 30 5 6 7")) {
		for i, values := range [fieldCount][]int{
			{-1, 0, 1949, 1950, 2049, 2050, 9999, 10000},
			{-1, 0, 1, 12, 13},
			{-1, 0, 1, 28, 29, 30, 31, 32},
			{-1, 0, 23, 24},
			{-1, 0, 59, 60, 61},
			{-1, 0, 59, 60, 61},
		} {
			for _, value := range values {
				counts[checkTime(t, with(x, i, value))]++
			}
		}
	}
	if counts[true] < 1000 || counts[false] < 1000 {
		t.Errorf("valid and not: %v", counts)
	}
}

// P8.1: the last day of each month and the day after it, the day 0, and the 29th of February of leap years and of others.
func TestMonths(t *testing.T) {
	for _, year := range []int{0, 1, 3, 4, 100, 200, 300, 400, 1900, 1949, 1950, 2000, 2023, 2024, 2049, 2050, 2100, 9996, 9999} {
		for month := 1; month <= 12; month++ {
			for _, clockTime := range [][3]int{{0, 0, 0}, {23, 59, 59}} {
				for day := -1; day <= 33; day++ {
					x := made([fieldCount]int{year, month, day, clockTime[0], clockTime[1], clockTime[2]})
					if day >= 1 && day <= daysOf(year, month) {
						expectTime(t, x)
					} else {
						expectNoTime(t, x)
					}
				}
			}
		}
	}
	for _, valid := range []string{"0 2 29", "4 2 29", "400 2 29", "1600 2 29", "1996 2 29", "2000 2 29", "2024 2 29", "2400 2 29", "9996 2 29"} {
		expectTime(t, at(valid))
		expectNoTime(t, with(at(valid), 2, 30))
	}
	for _, invalid := range []string{"1 2 29", "2 2 29", "3 2 29", "100 2 29", "200 2 29", "300 2 29", "1900 2 29", "1950 2 29", "2023 2 29", "2100 2 29", "9900 2 29", "9999 2 29"} {
		expectNoTime(t, at(invalid))
		expectTime(t, with(at(invalid), 2, 28))
	}
}

// P8.1: fields far outside their limits, one of them and more.
func TestExtremeFields(t *testing.T) {
	expectNoTime(t, api.Time{})
	for _, x := range []api.Time{{}, at("0 1 1"), at("1949 12 31 23 59 59"), at("2000 2 29 12 34 56"), at("2050 1 1"), at("9999 12 31 23 59 59")} {
		for i := range fieldCount {
			for _, n := range extremes {
				expectNoTime(t, with(x, i, n))
				for j := range i {
					for _, m := range extremes {
						expectNoTime(t, with(with(x, i, n), j, m))
					}
				}
			}
		}
	}
	for _, n := range extremes {
		expectNoTime(t, made([fieldCount]int{n, n, n, n, n, n}))
	}
}

// P8.1: random fields in their limits and around them.
func TestRandomFields(t *testing.T) {
	source := rand.New(rand.NewSource(8))
	counts := map[bool]int{}
	for range 100000 {
		x := api.Time{Year: source.Intn(10100) - 50, Month: source.Intn(14), Day: source.Intn(33), Hour: source.Intn(26) - 1, Minute: source.Intn(62) - 1, Second: source.Intn(62) - 1}
		if source.Intn(2) == 0 {
			x.Year = 1940 + source.Intn(120)
		}
		counts[checkTime(t, x)]++
	}
	if counts[true] < 10000 || counts[false] < 10000 {
		t.Errorf("valid and not: %v", counts)
	}
}

// P8.1, P8.2 and P8.3: the days of all years follow one another, and so do their first and their last seconds.
func TestAllDays(t *testing.T) {
	n := int64(first)
	before := api.Time{}
	for year := 0; year <= 9999; year++ {
		for month := 1; month <= 12; month++ {
			for day := 1; day <= daysOf(year, month); day++ {
				begin := api.Time{Year: year, Month: month, Day: day}
				end := api.Time{Year: year, Month: month, Day: day, Hour: 23, Minute: 59, Second: 59}
				if !hasSeconds(begin, n) || !hasSeconds(end, n+86399) {
					t.Fatalf("the seconds of %v are not %d, or those of %v are not %d", begin, n, end, n+86399)
				}
				if clock.Compare(before, begin) != -1 || clock.Compare(end, begin) != 1 {
					t.Fatalf("%v, %v and %v are not ascending", before, begin, end)
				}
				before = end
				n += 86400
			}
		}
	}
	if n != last+1 {
		t.Errorf("the days end ahead of the second %d, want %d", n, int64(last+1))
	}
}

// hasSeconds reports whether Seconds and FromSeconds say that a point in time has so many seconds.
func hasSeconds(x api.Time, n int64) bool {
	m, code := clock.Seconds(x)
	y, otherCode := clock.FromSeconds(n)
	return m == n && code == api.OK && y == x && otherCode == api.OK
}

// P8.1 and P8.2: each day of the years that a UTCTime may have, and of those around them.
func TestAllDaysOfUTC(t *testing.T) {
	for year := 1940; year <= 2060; year++ {
		for month := 1; month <= 12; month++ {
			for day := 1; day <= daysOf(year, month); day++ {
				expectTime(t, api.Time{Year: year, Month: month, Day: day, Hour: day % 24, Minute: year % 60, Second: month})
			}
		}
	}
}

// P8.1 and P8.2: all seconds of a day.
func TestAllSecondsOfDay(t *testing.T) {
	for _, day := range []api.Time{at("1969 12 31"), at("2000 2 29"), at("2049 12 31")} {
		for second := range 86400 {
			x := day
			x.Hour, x.Minute, x.Second = second/3600, second/60%60, second%60
			n := stamp(day).Unix() + int64(second)
			expectSeconds(t, x, n, api.OK)
			expectFromSeconds(t, n, x, api.OK)
			if second%7 == 0 || second%3600 < 2 || second%3600 > 3597 {
				expectTime(t, x)
			}
		}
	}
}

// P8.1 and P8.2: all fields that two digits may say, in each place of the octets, valid and not.
func TestAllPairs(t *testing.T) {
	for _, base := range []string{"20000229123456Z", "19500101000000Z", "20491231235959Z", "00000101000000Z", "99991231235959Z", "20230228000000Z", "19000430101010Z"} {
		for place := 0; place < 14; place += 2 {
			for pair := range 100 {
				c := []byte(base)
				copy(c[place:], fmt.Sprintf("%02d", pair))
				checkOctets(t, c)
				checkOctets(t, c[2:])
			}
		}
	}
}

// P8.1 and P8.2: all years of four digits and of two.
func TestAllYears(t *testing.T) {
	for _, rest := range []string{"0101000000Z", "0229235959Z", "1231235959Z"} {
		for year := range 10000 {
			checkOctets(t, fmt.Appendf(nil, "%04d%s", year, rest))
		}
		for year := range 100 {
			checkOctets(t, fmt.Appendf(nil, "%02d%s", year, rest))
		}
	}
	for year := range 100 {
		full := 2000 + year
		if year >= 50 {
			full = 1900 + year
		}
		expectDecodeUTC(t, fmt.Appendf(nil, "%02d0630010203Z", year), api.Time{Year: full, Month: 6, Day: 30, Hour: 1, Minute: 2, Second: 3}, api.OK)
	}
}

// P8.1, both Decode functions: any octet in each place: only digits are right, and Z at the end.
func TestAnyOctet(t *testing.T) {
	for _, base := range []string{"20000229123456Z", "19991010101010Z", "11111111111111Z", "000101000000Z", "991231235959Z", "111111111111Z"} {
		for i := range base {
			for x := range 256 {
				c := []byte(base)
				c[i] = byte(x)
				checkOctets(t, c)
				if isDigit := x >= '0' && x <= '9'; !isDigit && base[i] != byte(x) {
					expectDecodeUTC(t, c, api.Time{}, api.ErrValue)
					expectDecodeGeneral(t, c, api.Time{}, api.ErrValue)
				}
			}
		}
	}
}

// P8.1, both Decode functions: two octets that are no digits, whose values would make up for one another.
func TestPairsOfOctets(t *testing.T) {
	for _, base := range []string{"20000229123456Z", "19991010101010Z", "000101000000Z"} {
		for i := 0; i < len(base)-2; i++ {
			for x := range 256 {
				for _, y := range []byte{0, '/', '0', '1', '5', '9', ':', ';', 'Z', ' ', '+', '-', '.', 0x80, 0xb0, 0xff, byte(x)} {
					c := []byte(base)
					c[i], c[i+1] = byte(x), y
					checkOctets(t, c)
				}
			}
		}
		// Two octets with the value of the digits that they replace, were they digits.
		for i := 0; i+1 < len(base)-1; i++ {
			for _, carried := range []int{-20, -4, -1, 1, 2, 10} {
				c := []byte(base)
				c[i] -= byte(carried)
				c[i+1] += byte(10 * carried)
				checkOctets(t, c)
			}
		}
	}
}

// P8.1, both Decode functions: octets just outside the digits, signs, spaces and others in each place, and another letter than Z.
func TestNoDigits(t *testing.T) {
	for _, x := range []byte{'/', ':', '+', '-', ' ', '.', ',', 0, 0x10, '_', 'O', 'l', 'Z', 'z', 0x7f, 0xb0, 0xb9, 0xff} {
		for i := range 12 {
			c := []byte("000101000000Z")
			c[i] = x
			expectDecodeUTC(t, c, api.Time{}, api.ErrValue)
		}
		for i := range 14 {
			c := []byte("20000101000000Z")
			c[i] = x
			expectDecodeGeneral(t, c, api.Time{}, api.ErrValue)
		}
	}
	for x := range 256 {
		if x == 'Z' {
			continue
		}
		expectDecodeUTC(t, append([]byte("000101000000"), byte(x)), api.Time{}, api.ErrValue)
		expectDecodeGeneral(t, append([]byte("20000101000000"), byte(x)), api.Time{}, api.ErrValue)
	}
	for _, c := range []string{"Z", "ZZZZZZZZZZZZZ", "ZZZZZZZZZZZZZZZ", "+00101000000Z", "-00101000000Z", "20000101 00000Z", "2000010100000.Z", "000101000000z", "20000101000000z", "0001010000-1Z", "000101000000+", "１２０１０１Z"} {
		expectDecodeUTC(t, []byte(c), api.Time{}, api.ErrValue)
		expectDecodeGeneral(t, []byte(c), api.Time{}, api.ErrValue)
	}
}

// P8.1, both Decode functions: octets of every length, with and without a Z, and other forms of times.
func TestLengths(t *testing.T) {
	expectDecodeUTC(t, nil, api.Time{}, api.ErrValue)
	expectDecodeGeneral(t, nil, api.Time{}, api.ErrValue)
	expectDecodeUTC(t, []byte{}, api.Time{}, api.ErrValue)
	expectDecodeGeneral(t, []byte{}, api.Time{}, api.ErrValue)
	for length := range 64 {
		for _, digits := range []string{strings.Repeat("0", length), strings.Repeat("01", length)[:length], strings.Repeat("10", length)[:length], strings.Repeat("1", length), ("2000" + strings.Repeat("10", length))[:length]} {
			for _, end := range []string{"", "Z", "ZZ", "0Z0", ".0Z", "Z0", "+0000"} {
				c := []byte(digits + end)
				checkOctets(t, c)
				if len(c) != 13 {
					expectDecodeUTC(t, c, api.Time{}, api.ErrValue)
				}
				if len(c) != 15 {
					expectDecodeGeneral(t, c, api.Time{}, api.ErrValue)
				}
			}
		}
	}
	for _, c := range []string{"000101000000", "0001010000Z", "00010100000Z", "000101000000ZZ", "0001010000000Z", "000101000000+0000", "000101000000-0100", "20000101000000Z", " 000101000000Z", "000101000000Z ", "000101000000Z\x00"} {
		expectDecodeUTC(t, []byte(c), api.Time{}, api.ErrValue)
	}
	for _, c := range []string{"20000101000000", "200001010000Z", "2000010100Z", "2000010100000Z", "20000101000000ZZ", "200001010000000Z", "20000101000000.0Z", "20000101000000.5Z", "20000101000000,5Z", "20000101000000+0000", "000101000000Z", "020000101000000Z", " 20000101000000Z", "20000101000000Z ", "20000101000000Z\x00"} {
		expectDecodeGeneral(t, []byte(c), api.Time{}, api.ErrValue)
	}
	long := bytes.Repeat([]byte("20000101000000Z"), 1<<16)
	expectDecodeUTC(t, long, api.Time{}, api.ErrValue)
	expectDecodeGeneral(t, long, api.Time{}, api.ErrValue)
	expectDecodeUTC(t, long[:256+13], api.Time{}, api.ErrValue)
	expectDecodeGeneral(t, long[:256+15], api.Time{}, api.ErrValue)
}

// P8.1 and P8.2: random octets out of digits, and out of digits and a few others.
func TestRandomOctets(t *testing.T) {
	source := rand.New(rand.NewSource(9))
	for _, alphabet := range []string{"0123456789", "0011223", "01", "0123456789/:+- Z"} {
		for range 30000 {
			c := make([]byte, 12+2*source.Intn(2), 15)
			for i := range c {
				c[i] = alphabet[source.Intn(len(alphabet))]
			}
			checkOctets(t, append(c, 'Z'))
		}
	}
}

// P8.1, P8.2: points in time with a field that the octets may say, but that is outside its limits.
func TestDecodeOutside(t *testing.T) {
	for _, c := range []string{
		"000001000000Z", "001301000000Z", "009901000000Z",
		"000100000000Z", "000132000000Z", "000230000000Z", "010229000000Z", "500229000000Z", "000431000000Z", "000631000000Z", "000931000000Z", "001131000000Z", "001232000000Z", "000199000000Z",
		"000101240000Z", "000101990000Z", "000101006000Z", "000101009900Z", "000101000060Z", "000101000099Z", "001231235960Z",
	} {
		for _, century := range []string{"19", "20", "00", "99"} {
			expectDecodeUTC(t, []byte(c), api.Time{}, api.ErrValue)
			checkOctets(t, []byte(century+c))
		}
	}
	for _, c := range []string{"19000229000000Z", "20230229000000Z", "21000229000000Z", "00010229000000Z", "99990229000000Z", "20000230000000Z", "20001301000000Z", "20000001000000Z", "20000100000000Z", "20000101240000Z", "20000101006000Z", "20000101000060Z"} {
		expectDecodeGeneral(t, []byte(c), api.Time{}, api.ErrValue)
	}
}

// P8.2: no two octets are decoded as the same point in time by one function.
func TestDecodedOnce(t *testing.T) {
	utc, general := map[api.Time]string{}, map[api.Time]string{}
	for year := range 100 {
		for month := range 14 {
			for _, rest := range []string{"01000000", "28235959", "29000000", "31235959", "01000060", "01006000", "01240000", "00000000", "01000001", "01000100", "01010000", "02000000", "32000000"} {
				c := fmt.Sprintf("%02d%02d%sZ", year, month, rest)
				if x, code := clock.DecodeUTC([]byte(c)); code == api.OK {
					if other, ok := utc[x]; ok {
						t.Errorf("%s and %s are both decoded as %v", other, c, x)
					}
					utc[x] = c
				}
				for _, century := range []string{"00", "01", "19", "20", "99"} {
					if x, code := clock.DecodeGeneral([]byte(century + c)); code == api.OK {
						if other, ok := general[x]; ok {
							t.Errorf("%s and %s are both decoded as %v", other, century+c, x)
						}
						general[x] = century + c
					}
				}
			}
		}
	}
	if len(utc) < 8000 || len(general) < 40000 {
		t.Errorf("only %d and %d points in time are decoded", len(utc), len(general))
	}
}

// P8.1, FromSeconds: the seconds at the ends of the years 0 and 9999, just outside of them, and far away.
func TestSecondsOutside(t *testing.T) {
	expectFromSeconds(t, first, at("0 1 1"), api.OK)
	expectFromSeconds(t, last, at("9999 12 31 23 59 59"), api.OK)
	for _, n := range []int64{math.MinInt64, math.MinInt64 + 1, math.MinInt64 + 86399, math.MinInt64 + 86400, math.MinInt64 + 62167219200, math.MinInt64 / 2, -1 << 53, -1 << 40, first - 86400, first - 86399, first - 60, first - 2, first - 1, last + 1, last + 2, last + 60, last + 86400, 1 << 40, 1 << 53, math.MaxInt64 / 2, math.MaxInt64 - 62167219200, math.MaxInt64 - 62167219199, math.MaxInt64 - 86400, math.MaxInt64 - 1, math.MaxInt64} {
		expectFromSeconds(t, n, api.Time{}, api.ErrRange)
	}
	source := rand.New(rand.NewSource(10))
	for range 20000 {
		checkSeconds(t, int64(source.Uint64()))
		checkSeconds(t, first-1-source.Int63n(1<<40))
		checkSeconds(t, last+1+source.Int63n(1<<40))
	}
}

// P8.1 and P8.2: seconds around the first and the last one of days, months, years and centuries, and around 0.
func TestSecondsAround(t *testing.T) {
	for n := int64(-200000); n <= 200000; n++ {
		checkSeconds(t, n)
	}
	for year := 0; year <= 9999; year++ {
		for month := 1; month <= 12; month++ {
			begin := time.Date(year, time.Month(month), 1, 0, 0, 0, 0, time.UTC).Unix()
			for n := begin - 2; n <= begin+2; n++ {
				checkSeconds(t, n)
			}
		}
	}
	for i := int64(0); i < 100; i++ {
		checkSeconds(t, first-50+i)
		checkSeconds(t, last-50+i)
	}
}

// P8.1 and P8.2: random seconds of all years.
func TestRandomSeconds(t *testing.T) {
	source := rand.New(rand.NewSource(11))
	for range 200000 {
		checkSeconds(t, first+source.Int63n(last-first+1))
	}
	for range 20000 {
		expectTime(t, randomTime(source))
	}
}

// P8.1, Compare: all fields out of the least and the greatest int and 0, so that most of them are not valid.
func TestCompareAll(t *testing.T) {
	all := []api.Time{{}}
	for i := range fieldCount {
		var longer []api.Time
		for _, x := range all {
			for _, value := range []int{math.MinInt, 0, math.MaxInt} {
				longer = append(longer, with(x, i, value))
			}
		}
		all = longer
	}
	for _, a := range all {
		for _, b := range all {
			checkCompare(t, a, b)
		}
	}
}

// P8.1, Compare: each field decides only where those ahead of it are equal, whatever those behind it are.
func TestCompareField(t *testing.T) {
	pairs := [][2]int{{0, 1}, {-1, 0}, {-1, 1}, {-2, -1}, {9, 10}, {58, 59}, {59, 60}, {1949, 1950}, {9999, 10000}, {math.MinInt, math.MaxInt}, {math.MinInt, math.MinInt + 1}, {math.MinInt, -1}, {math.MinInt, 0}, {math.MaxInt - 1, math.MaxInt}, {-2, math.MaxInt}, {-1 << 32, 0}, {0, 1 << 32}, {5, 1 << 32}, {1<<32 - 1, 1 << 32}, {math.MinInt32, math.MaxInt32}}
	for _, base := range []api.Time{{}, at("2000 2 29 12 34 56"), at("-1 -2 -3 -4 -5 -6"), at("9999 99 99 99 99 99")} {
		for i := range fieldCount {
			for _, pair := range pairs {
				less, greater := with(base, i, pair[0]), with(base, i, pair[1])
				expectCompare(t, less, greater, -1)
				expectCompare(t, greater, less, 1)
				expectCompare(t, less, less, 0)
				expectCompare(t, greater, greater, 0)
				for j := i + 1; j < fieldCount; j++ {
					for _, other := range pairs {
						expectCompare(t, with(less, j, other[1]), with(greater, j, other[0]), -1)
						expectCompare(t, with(greater, j, other[0]), with(less, j, other[1]), 1)
					}
				}
			}
		}
	}
}

// P8.1, Compare: random fields, of which the first ones are equal.
func TestCompareRandom(t *testing.T) {
	source := rand.New(rand.NewSource(12))
	for range 100000 {
		var f, g [fieldCount]int
		for i := range f {
			f[i] = int(source.Uint64()) >> source.Intn(64)
			g[i] = f[i]
		}
		for i := source.Intn(fieldCount + 1); i < fieldCount; i++ {
			g[i] = int(source.Uint64()) >> source.Intn(64)
		}
		checkCompare(t, made(f), made(g))
	}
}

// P8.3: the seconds of all pairs of points in time at their limits are ordered as Compare orders them.
func TestOrder(t *testing.T) {
	all := ordinary()
	for i, a := range all {
		m, _ := clock.Seconds(a)
		for j, b := range all {
			n, _ := clock.Seconds(b)
			got := clock.Compare(a, b)
			if less, greater := m < n, m > n; less != (got == -1) || greater != (got == 1) || (got == 0) != (a == b) {
				t.Errorf("Compare(%v, %v) = %d with the seconds %d and %d", a, b, got, m, n)
			}
			if i < j && m > n {
				t.Errorf("the seconds of %v and %v are %d and %d", a, b, m, n)
			}
		}
	}
}

// P8.3: the seconds of random points in time, near to one another and not.
func TestOrderRandom(t *testing.T) {
	source := rand.New(rand.NewSource(13))
	for range 100000 {
		m := first + source.Int63n(last-first+1)
		n := min(max(m+source.Int63n(1<<uint(1+source.Intn(38)))-source.Int63n(1<<uint(1+source.Intn(38))), first), last)
		a, code := clock.FromSeconds(m)
		b, otherCode := clock.FromSeconds(n)
		if code != api.OK || otherCode != api.OK {
			t.Fatalf("FromSeconds(%d), FromSeconds(%d): %v, %v", m, n, code, otherCode)
		}
		want := 0
		if m < n {
			want = -1
		} else if m > n {
			want = 1
		}
		expectCompare(t, a, b, want)
	}
}

// scribble overwrites a slice and its unused capacity.
func scribble(slice []byte) {
	all := slice[:cap(slice)]
	for i := range all {
		all[i] = '7'
	}
}

// P8.1 with rule 5: neither the octets nor their unused capacity are modified, and later changes of them do not change a result.
func TestArgumentsStay(t *testing.T) {
	for _, c := range []string{"000101000000Z", "991231235959Z", "20000229123456Z", "99991231235959Z", "20230229000000Z", "000230000000Z", "00010100000:Z", "000101000000", ""} {
		room := []byte("ab" + c + "cdefghijklmnopqrst")
		want := bytes.Clone(room)
		part := room[2 : 2+len(c)]
		x, code := clock.DecodeUTC(part)
		y, otherCode := clock.DecodeGeneral(part)
		if !bytes.Equal(room, want) {
			t.Errorf("the octets around %s became %q", c, room)
		}
		scribble(room)
		expectDecodeUTC(t, []byte(c), x, code)
		expectDecodeGeneral(t, []byte(c), y, otherCode)
	}
}

// P8.1 with rules 5 and 7: later changes of octets do not change the results of other calls.
func TestResultsAreIndependent(t *testing.T) {
	for _, x := range []api.Time{at("1950 1 1"), at("2000 2 29 12 34 56"), at("2049 12 31 23 59 59")} {
		utc, _ := clock.EncodeUTC(x)
		general, _ := clock.EncodeGeneral(x)
		otherUTC, _ := clock.EncodeUTC(x)
		otherGeneral, _ := clock.EncodeGeneral(x)
		y, _ := clock.DecodeUTC(otherUTC)
		z, _ := clock.DecodeGeneral(otherGeneral)
		for _, c := range [][]byte{otherUTC, otherGeneral} {
			scribble(c)
			_ = append(c[:0], "111111111111111111"...)
		}
		if !bytes.Equal(utc, utcOf(x)) || !bytes.Equal(general, generalOf(x)) || y != x || z != x {
			t.Errorf("the results for %v became %q, %q, %v, %v", x, utc, general, y, z)
		}
		expectTime(t, x)
	}
}

// P8.1 with rule 8: the functions may be called concurrently.
func TestConcurrentCalls(t *testing.T) {
	for i := range 8 {
		t.Run(fmt.Sprint(i), func(t *testing.T) {
			t.Parallel()
			source := rand.New(rand.NewSource(int64(i)))
			for range 2000 {
				expectTime(t, randomTime(source))
			}
		})
	}
}
