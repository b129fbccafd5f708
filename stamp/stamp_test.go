package stamp

import (
	"fmt"
	"math"
	"math/big"
	"strings"
	"testing"
	stdtime "time"
)

const (
	least    = math.MinInt64
	greatest = math.MaxInt64
	day      = 86400
	half     = 15778476

	// some is 2025-11-18 17:04:05, a Tuesday, the 322nd day of its year.
	some = 1763485445
	// letters are the bytes that make a directive, by the chapter.
	letters = "YmdHMSejbaszFT%"
)

// at is the time of a date in a place without an offset.
func at(year int, month stdtime.Month, d, hour, minute, second int) int64 {
	return stdtime.Date(year, month, d, hour, minute, second, 0, stdtime.UTC).Unix()
}

func check(t *testing.T, f string, time int64, offset int, want string) {
	t.Helper()
	if got := Format(f, time, offset); got != want {
		t.Errorf("Format(%q, %d, %d): %q, want %q", f, time, offset, got, want)
	}
}

// P5.1

func TestEachDirective(t *testing.T) {
	for f, want := range map[string]string{
		"%Y": "2025", "%m": "11", "%d": "18", "%H": "17", "%M": "04", "%S": "05", "%e": "18", "%j": "322",
		"%b": "Nov", "%a": "Tue", "%s": "1763485445", "%z": "+0000", "%F": "2025-11-18", "%T": "17:04:05", "%%": "%",
	} {
		check(t, f, some, 0, want)
	}
	check(t, "%F", 0, 0, "1970-01-01")
}

func TestDirectivesInTheirPlaces(t *testing.T) {
	for f, want := range map[string]string{
		"[%Y]":                    "[2025]",
		"%Y%m%d":                  "20251118",
		"%H:%M":                   "17:04",
		"Y%YY":                    "Y2025Y",
		"%a, %e %b %Y %T %z (%s)": "Tue, 18 Nov 2025 17:04:05 +0000 (1763485445)",
		"%j/%j":                   "322/322",
		"%F%F":                    "2025-11-182025-11-18",
		"\n%T\t":                  "\n17:04:05\t",
		"\x00%d\xff%m\u00e9":      "\x0018\xff11\u00e9",
	} {
		check(t, f, some, 0, want)
	}
}

func TestDateOfThePlace(t *testing.T) {
	const f = "%F %T %e %j %b %a"
	for _, c := range []struct {
		time   int64
		offset int
		want   string
	}{
		{0, 0, "1970-01-01 00:00:00  1 001 Jan Thu"},
		{0, 3600, "1970-01-01 01:00:00  1 001 Jan Thu"},
		{0, -1, "1969-12-31 23:59:59 31 365 Dec Wed"},
		{0, 1, "1970-01-01 00:00:01  1 001 Jan Thu"},
		{0, day, "1970-01-02 00:00:00  2 002 Jan Fri"},
		{0, -day, "1969-12-31 00:00:00 31 365 Dec Wed"},
		{0, day + 1, "1970-01-02 00:00:00  2 002 Jan Fri"},
		{0, -day - 1, "1969-12-31 00:00:00 31 365 Dec Wed"},
		{0, math.MaxInt, "1970-01-02 00:00:00  2 002 Jan Fri"},
		{0, math.MinInt, "1969-12-31 00:00:00 31 365 Dec Wed"},
	} {
		check(t, f, c.time, c.offset, c.want)
	}
}

func TestNamesOfMonths(t *testing.T) {
	for i, want := range []string{"Jan", "Feb", "Mar", "Apr", "May", "Jun", "Jul", "Aug", "Sep", "Oct", "Nov", "Dec"} {
		month := stdtime.Month(i + 1)
		check(t, "%b", at(2025, month, 1, 0, 0, 0), 0, want)
		check(t, "%b", at(2025, month+1, 1, 0, 0, 0)-1, 0, want)
		check(t, "%m", at(2025, month, 1, 0, 0, 0), 0, fmt.Sprintf("%02d", month))
	}
}

func TestNamesOfDays(t *testing.T) {
	for i, want := range []string{"Sun", "Mon", "Tue", "Wed", "Thu", "Fri", "Sat"} {
		// November 16th, 2025, is a Sunday; so is December 28th, 1969.
		check(t, "%a", at(2025, 11, 16+i, 0, 0, 0), 0, want)
		check(t, "%a", at(2025, 11, 16+i, 23, 59, 59), 0, want)
		check(t, "%a", at(1969, 12, 28+i, 12, 0, 0), 0, want)
	}
}

func TestEachDayOfAMonth(t *testing.T) {
	for d := 1; d <= 31; d++ {
		time := at(2025, 1, d, 0, 0, 0)
		check(t, "%e", time, 0, fmt.Sprintf("%2d", d))
		check(t, "%d", time, 0, fmt.Sprintf("%02d", d))
	}
	check(t, "<%e|%d>", at(2025, 1, 9, 0, 0, 0), 0, "< 9|09>")
	check(t, "<%e|%d>", at(2025, 1, 10, 0, 0, 0), 0, "<10|10>")
}

func TestEachSecondOfADay(t *testing.T) {
	for n := range day {
		want := fmt.Sprintf("%02d:%02d:%02d", n/3600, n/60%60, n%60)
		if got := Format("%H:%M:%S", int64(n), 0); got != want {
			t.Fatalf("Format of %d: %q, want %q", n, got, want)
		}
		if got := Format("%T", int64(n), 0); got != want {
			t.Fatalf("Format of %d: %q, want %q", n, got, want)
		}
	}
}

func TestDayOfTheYear(t *testing.T) {
	for n := range 365 {
		check(t, "%j", at(2025, 1, 1+n, 0, 0, 0), 0, fmt.Sprintf("%03d", n+1))
	}
	for _, c := range []struct {
		time int64
		want string
	}{
		{at(2025, 1, 1, 0, 0, 0), "001"}, {at(2025, 1, 9, 0, 0, 0), "009"}, {at(2025, 1, 10, 0, 0, 0), "010"},
		{at(2025, 4, 9, 0, 0, 0), "099"}, {at(2025, 4, 10, 0, 0, 0), "100"},
		{at(2025, 12, 31, 23, 59, 59), "365"}, {at(2024, 12, 31, 23, 59, 59), "366"}, {at(2000, 12, 31, 0, 0, 0), "366"},
		{at(1900, 12, 31, 0, 0, 0), "365"}, {at(2024, 2, 29, 0, 0, 0), "060"}, {at(2024, 3, 1, 0, 0, 0), "061"},
	} {
		check(t, "%j", c.time, 0, c.want)
	}
}

func TestYears(t *testing.T) {
	for _, year := range []int{
		-10000, -9999, -1000, -999, -101, -100, -99, -10, -9, -4, -1, 0, 1, 4, 9, 10, 99, 100, 999, 1000, 1969, 1970,
		9999, 10000, 10001, 99999, 100000, 1000000,
	} {
		check(t, "%Y", at(year, 1, 1, 0, 0, 0), 0, fmt.Sprint(year))
		check(t, "%Y", at(year, 12, 31, 23, 59, 59), 0, fmt.Sprint(year))
		check(t, "%F", at(year, 3, 4, 0, 0, 0), 0, fmt.Sprint(year)+"-03-04")
	}
	check(t, "%F", -62135596800, 0, "1-01-01")
	check(t, "%F", -62135596801, 0, "0-12-31")
	check(t, "%F", -62167219201, 0, "-1-12-31")
	check(t, "%F", 253402300799, 0, "9999-12-31")
	check(t, "%F", 253402300800, 0, "10000-01-01")
}

func TestTimesBelowNoughtAndAtTheEnds(t *testing.T) {
	const f = "%s %F %T %e %j %b %a %z"
	for _, c := range []struct {
		time   int64
		offset int
		want   string
	}{
		{-1, 0, "-1 1969-12-31 23:59:59 31 365 Dec Wed +0000"},
		{-day, 0, "-86400 1969-12-31 00:00:00 31 365 Dec Wed +0000"},
		{-day - 1, 0, "-86401 1969-12-30 23:59:59 30 364 Dec Tue +0000"},
		{least, 0, "-9223372036854775808 -292277022657-01-27 08:29:52 27 027 Jan Sun +0000"},
		{least, day, "-9223372036854775808 -292277022657-01-28 08:29:52 28 028 Jan Mon +2400"},
		{least, -day, "-9223372036854775808 -292277022657-01-26 08:29:52 26 026 Jan Sat -2400"},
		{least, math.MinInt, "-9223372036854775808 -292277022657-01-26 08:29:52 26 026 Jan Sat -2400"},
		{greatest, 0, "9223372036854775807 292277026596-12-04 15:30:07  4 339 Dec Sun +0000"},
		{greatest, day, "9223372036854775807 292277026596-12-05 15:30:07  5 340 Dec Mon +2400"},
		{greatest, -day, "9223372036854775807 292277026596-12-03 15:30:07  3 338 Dec Sat -2400"},
		{greatest, math.MaxInt, "9223372036854775807 292277026596-12-05 15:30:07  5 340 Dec Mon +2400"},
	} {
		check(t, f, c.time, c.offset, c.want)
	}
}

func TestTimeItselfHasNoOffset(t *testing.T) {
	for _, time := range []int64{0, 1, -1, some, -some, least, greatest} {
		for _, offset := range []int{0, 1, -1, 3600, day, -day, math.MaxInt, math.MinInt} {
			check(t, "%s", time, offset, fmt.Sprint(time))
		}
	}
}

func TestOffsets(t *testing.T) {
	for _, c := range []struct {
		offset int
		want   string
	}{
		{0, "+0000"}, {1, "+0000"}, {59, "+0000"}, {60, "+0001"}, {61, "+0001"}, {119, "+0001"},
		{-1, "-0000"}, {-59, "-0000"}, {-60, "-0001"}, {-61, "-0001"}, {-119, "-0001"}, {-120, "-0002"},
		{3599, "+0059"}, {3600, "+0100"}, {3661, "+0101"}, {-3599, "-0059"}, {-3600, "-0100"}, {-3661, "-0101"},
		{5*3600 + 1800, "+0530"}, {-(9*3600 + 1800), "-0930"}, {45900, "+1245"}, {-12600 - 52, "-0330"},
		{36000, "+1000"}, {86399, "+2359"}, {-86399, "-2359"}, {86400, "+2400"}, {-86400, "-2400"},
		{86401, "+2400"}, {-86401, "-2400"}, {86460, "+2400"}, {-86460, "-2400"}, {90000, "+2400"}, {-90000, "-2400"},
		{math.MaxInt32, "+2400"}, {math.MinInt32, "-2400"},
		{math.MaxInt, "+2400"}, {math.MinInt + 1, "-2400"}, {math.MinInt, "-2400"},
	} {
		for _, time := range []int64{0, some, -some, least, greatest} {
			check(t, "%z", time, c.offset, c.want)
		}
	}
}

func TestEachOffset(t *testing.T) {
	for offset := -day; offset <= day; offset++ {
		sign, size := "+", offset
		if offset < 0 {
			sign, size = "-", -offset
		}
		want := fmt.Sprintf("%s%02d%02d", sign, size/3600, size%3600/60)
		if got := Format("%z", 0, offset); got != want {
			t.Fatalf("%%z of %d: %q, want %q", offset, got, want)
		}
	}
}

func TestPercents(t *testing.T) {
	for f, want := range map[string]string{
		"%":      "%",
		"%%":     "%",
		"%%%":    "%%",
		"%%%%":   "%%",
		"%%%%%":  "%%%",
		"%%Y":    "%Y",
		"%%%Y":   "%2025",
		"%%%%Y":  "%%Y",
		"%Y%":    "2025%",
		"%Y%%":   "2025%",
		"Y%":     "Y%",
		"%q%":    "%q%",
		"100%%.": "100%.",
		"% %":    "% %",
		"% %%":   "% %",
		"\xff%":  "\xff%",
		"%\xff%": "%\xff%",
	} {
		check(t, f, some, 0, want)
	}
}

func TestBytesThatAreNoDirective(t *testing.T) {
	for n := range 256 {
		b := string([]byte{byte(n)})
		if strings.Contains(letters, b) {
			if got := Format("%"+b, some, 0); got == "%"+b {
				t.Errorf("%%%s stays as it is", b)
			}
			continue
		}
		for _, offset := range []int{0, 3600, math.MinInt} {
			check(t, "%"+b, some, offset, "%"+b)
		}
		check(t, "%"+b+"%Y", some, 0, "%"+b+"2025")
		check(t, "%"+b+"Y", some, 0, "%"+b+"Y")
		check(t, "%"+b+"%", some, 0, "%"+b+"%")
		check(t, "%"+b+"%%", some, 0, "%"+b+"%")
		check(t, "%Y%"+b+"%d", some, 0, "2025%"+b+"18")
	}
	// U+0159 ends with the number of Y, but none of its bytes is one.
	check(t, "%\u0159%Y", some, 0, "%\u01592025")
	check(t, "%\u00e9%d", some, 0, "%\u00e918")
}

func TestAgainstTheLibrary(t *testing.T) {
	const f = "%Y %m %d %H %M %S %e %j %b %a %s %z %F %T"
	const layout = "2006 01 02 15 04 05 _2 002 Jan Mon UNIX -0700 2006-01-02 15:04:05"
	for time := at(1000, 1, 2, 0, 0, 0); time < at(9999, 12, 30, 0, 0, 0); time += 12345678 {
		// The library writes offsets of less than a minute below 0 with a +.
		for _, offset := range []int{0, 60, 3600, -3600, 20700, -34200, day, -day} {
			l := stdtime.Unix(time, 0).In(stdtime.FixedZone("", offset))
			want := strings.Replace(l.Format(layout), "UNIX", fmt.Sprint(time), 1)
			if got := Format(f, time, offset); got != want {
				t.Fatalf("Format of %d, %d: %q, want %q", time, offset, got, want)
			}
		}
	}
}

// recent is the chapter's sentence, in numbers without a bound.
func recent(time, now int64) bool {
	ahead := new(big.Int).Sub(big.NewInt(now), big.NewInt(time))
	return ahead.Sign() >= 0 && ahead.Cmp(big.NewInt(half)) < 0
}

// nows are those around which times are recent or aren't, at both ends too.
func nows() []int64 {
	return []int64{
		0, 1, -1, some, -some, half, -half, half - 1, 1 << 62, -1 << 62,
		least, least + 1, least + half - 1, least + half, least + half + 1,
		greatest, greatest - 1, greatest - half + 1, greatest - half, greatest - half - 1,
	}
}

func TestRecent(t *testing.T) {
	for _, c := range []struct {
		time, now int64
		want      bool
	}{
		{0, 0, true}, {some, some, true}, {least, least, true}, {greatest, greatest, true},
		{1, 0, false}, {some + 1, some, false}, {some + half, some, false}, {some - 1, some, true},
		{some - half + 1, some, true}, {some - half, some, false}, {some - half - 1, some, false},
		{-15778475, 0, true}, {-15778476, 0, false}, {0, 15778475, true}, {0, 15778476, false},
		{least, greatest, false}, {greatest, least, false}, {least, 0, false}, {least, -1, false}, {0, least, false},
		{greatest, -1, false}, {-1, greatest, false}, {-2, greatest, false}, {greatest, -2, false},
		{least, least + half - 1, true}, {least, least + half, false}, {least + 1, least, false},
		{greatest - half + 1, greatest, true}, {greatest - half, greatest, false}, {greatest, greatest - 1, false},
		// The difference of these, cut to 64 bits, is small or below 0.
		{least + 5, greatest, false}, {greatest - 5, least, false}, {1 << 62, -1 << 62, false}, {-1 << 62, 1 << 62, false},
	} {
		if got := Recent(c.time, c.now); got != c.want {
			t.Errorf("Recent(%d, %d): %v", c.time, c.now, got)
		}
	}
}

func TestRecentAgainstGreaterNumbers(t *testing.T) {
	for _, now := range nows() {
		for _, time := range nows() {
			if got := Recent(time, now); got != recent(time, now) {
				t.Errorf("Recent(%d, %d): %v", time, now, got)
			}
		}
		for _, step := range []int64{0, 1, 2, half - 1, half, half + 1, 2 * half, -1, -half, 1 << 31, 1 << 32, 1<<32 + 1} {
			// What wraps round is a time as well.
			time := now - step
			if got := Recent(time, now); got != recent(time, now) {
				t.Errorf("Recent(%d, %d): %v", time, now, got)
			}
		}
	}
}

func TestStyles(t *testing.T) {
	for _, c := range []struct {
		style  int
		own    string
		time   int64
		now    int64
		offset int
		want   string
	}{
		{0, "", some, some, 0, "Nov 18 17:04"},
		{0, "", some, some - 1, 0, "Nov 18  2025"},
		{0, "", some, some + half - 1, 0, "Nov 18 17:04"},
		{0, "", some, some + half, 0, "Nov 18  2025"},
		{0, "", 0, 0, 0, "Jan  1 00:00"},
		{0, "", 0, 0, 3600, "Jan  1 01:00"},
		{0, "", 0, some, 0, "Jan  1  1970"},
		{0, "", 0, -1, -1, "Dec 31  1969"},
		{0, "", 0, 0, -1, "Dec 31 23:59"},
		{0, "", 1, 0, day, "Jan  2  1970"},
		{0, "", -62135596800, 0, 0, "Jan  1  1"},
		{0, "", 253402300800, 0, 0, "Jan  1  10000"},
		{0, "", least, greatest, 0, "Jan 27  -292277022657"},
		{0, "", greatest, least, 0, "Dec  4  292277026596"},
		{0, "", least, least, 0, "Jan 27 08:29"},
		{0, "", greatest, greatest, 0, "Dec  4 15:30"},
		{0, "%Y", some, some, 0, "Nov 18 17:04"},
		{1, "", some, some, 0, "2025-11-18 17:04"},
		{1, "%j", some, 0, 3600, "2025-11-18 18:04"},
		{1, "", 0, 0, 0, "1970-01-01 00:00"},
		{1, "", -62167219201, 0, 0, "-1-12-31 23:59"},
		{2, "", some, some, 0, "2025-11-18 17:04:05 +0000"},
		{2, "%j", some, 0, -3661, "2025-11-18 16:03:04 -0101"},
		{2, "", some, 0, math.MaxInt, "2025-11-19 17:04:05 +2400"},
		{2, "", some, 0, math.MinInt, "2025-11-17 17:04:05 -2400"},
		{2, "", 0, 0, -1, "1969-12-31 23:59:59 -0000"},
		{3, "", some, some, 0, ""},
		{3, "own", some, some, 0, "own"},
		{3, "%", some, some, 0, "%"},
		{3, "%a %q %e%", some, 0, 86400, "Wed %q 19%"},
		{3, "%s", least, greatest, 1, "-9223372036854775808"},
	} {
		if got := Style(c.style, c.own, c.time, c.now, c.offset); got != c.want {
			t.Errorf("Style(%d, %q, %d, %d, %d): %q, want %q", c.style, c.own, c.time, c.now, c.offset, got, c.want)
		}
	}
}

func TestStyleIsAFormat(t *testing.T) {
	for _, now := range nows() {
		for _, time := range append(nows(), now-half, now-half+1, now+1) {
			for _, offset := range []int{0, -1, 20700, day, -day, math.MaxInt, math.MinInt} {
				format := "%b %e  %Y"
				if recent(time, now) {
					format = "%b %e %H:%M"
				}
				const own = "%j of %Y, %z%"
				for style, f := range []string{format, "%Y-%m-%d %H:%M", "%Y-%m-%d %H:%M:%S %z", own} {
					got, want := Style(style, own, time, now, offset), Format(f, time, offset)
					if got != want {
						t.Errorf("Style(%d, %q, %d, %d, %d): %q, want %q", style, own, time, now, offset, got, want)
					}
				}
			}
		}
	}
}

func TestNoStyle(t *testing.T) {
	for _, style := range []int{-1, -2, -3, -4, 4, 5, 7, 8, 256, 257, math.MinInt32, math.MaxInt32, math.MinInt, math.MaxInt} {
		for _, own := range []string{"", "own", "%Y"} {
			if got := Style(style, own, some, some, 0); got != "" {
				t.Errorf("Style(%d, %q): %q", style, own, got)
			}
		}
	}
}

// P5.2

func TestWithoutAPercent(t *testing.T) {
	plain := []string{
		"", " ", "Y", "YmdHMSejbaszFT", "1970-01-01", "\n", "\x00", "\x7f", "\xff\xfe", "\xc3", "\u00e9\u3042\U0001f600",
		"\u066a\ufe6a\uff05", strings.Repeat("long ", 10000),
	}
	for n := range 256 {
		if n != '%' {
			plain = append(plain, string([]byte{byte(n)}), string([]byte{byte(n), 'Y', byte(n)}))
		}
	}
	for _, f := range plain {
		for _, time := range []int64{0, some, least, greatest} {
			for _, offset := range []int{0, 3600, math.MaxInt, math.MinInt} {
				check(t, f, time, offset, f)
			}
		}
	}
}

// parts are directives of each kind, pieces of such, and plain texts.
func parts() []string {
	l := []string{
		"", "Y", "d", "plain", " ", "\n", "\xff", "\u00e9", "%", "%%", "%%%", "%%%%", "x%", "%Y%", "%q", "%\xff", "%q%", "% ", "%\x00",
		"%Y-%m-%d", "%H:%M:%S", "%a %e %b", "%%Y", "q%Y",
	}
	for _, b := range letters {
		l = append(l, "%"+string(b))
	}
	return l
}

// lone tells if the last byte of f is a % that isn't a directive's.
func lone(f string) bool {
	for len(f) > 1 {
		if f[0] == '%' {
			f = f[1:]
		}
		f = f[1:]
	}
	return f == "%"
}

func TestOneBehindTheOther(t *testing.T) {
	for _, time := range []int64{0, some, least, greatest} {
		for _, offset := range []int{0, -1, 20700, math.MinInt} {
			for _, first := range parts() {
				for _, second := range parts() {
					if lone(first) {
						continue
					}
					check(t, first+second, time, offset, Format(first, time, offset)+Format(second, time, offset))
				}
			}
		}
	}
}

func TestOneBehindALonePercent(t *testing.T) {
	for _, first := range parts() {
		if !lone(first) {
			continue
		}
		ahead := Format(first[:len(first)-1], some, 0)
		check(t, first, some, 0, ahead+"%")
		for _, second := range parts() {
			if second == "" {
				continue
			}
			// The % takes the byte behind it, and the rest follows.
			pair, rest := Format("%"+second[:1], some, 0), Format(second[1:], some, 0)
			check(t, first+second, some, 0, ahead+pair+rest)
		}
	}
	check(t, "%"+"Y", some, 0, "2025")
	check(t, "x%"+"d/%m", some, 0, "x18/11")
	check(t, "%"+"%Y", some, 0, "%Y")
	check(t, "%Y%"+"%", some, 0, "2025%")
}

func TestManyDirectives(t *testing.T) {
	const many = 20000
	check(t, strings.Repeat("%Y%%%q ", many), some, 0, strings.Repeat("2025%%q ", many))
}
