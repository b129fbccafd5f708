package date

import (
	"math"
	"math/big"
	"testing"
	stdtime "time"
)

const (
	least    = math.MinInt64
	greatest = math.MaxInt64
	day      = 86400
	round    = 146097 * day // seconds of 400 years
)

// offsets are those at which the bound changes an answer, and others.
func offsets() []int {
	return []int{
		0, 1, -1, 59, -59, 3600, -3600, 5*3600 + 1800, -(9*3600 + 1800), 43200, 86399, -86399,
		86400, -86400, 86401, -86401, 90000, -90000, 2 * day, -2 * day,
		math.MaxInt32, math.MinInt32, math.MaxInt, math.MinInt,
	}
}

// beginnings are times at which a year, a month, a round or an int64 begins
// or ends, and far ones.
func beginnings() []int64 {
	l := []int64{0, 10 * day, -10 * day, least, least + day, least + round, greatest, greatest - day, greatest - round}
	for _, year := range []int{-2001, -2000, -801, -400, -100, -4, -1, 0, 1, 4, 100, 400, 1582, 1600, 1700, 1900, 1970, 2000, 2001, 2004, 2038, 2100, 2400, 9999, 10000} {
		for month := stdtime.January; month <= stdtime.December; month++ {
			l = append(l, stdtime.Date(year, month, 1, 0, 0, 0, 0, stdtime.UTC).Unix())
		}
	}
	for bit := range 63 {
		l = append(l, 1<<bit, -1<<bit)
	}
	return l
}

// times are the beginnings with their neighbours.
func times() []int64 {
	var l []int64
	for _, t := range beginnings() {
		for _, step := range []int64{-day - 1, -day, -3601, -61, -2, -1, 0, 1, 59, 60, 3599, 3600, day - 1, day, day + 1} {
			sum := t + step
			if (step < 0) == (sum < t) {
				l = append(l, sum)
			}
		}
	}
	return l
}

// next is the date that follows d, by the calendar alone.
func next(d Date) Date {
	d.Second++
	if d.Second < 60 {
		return d
	}
	d.Second = 0
	d.Minute++
	if d.Minute < 60 {
		return d
	}
	d.Minute = 0
	d.Hour++
	if d.Hour < 24 {
		return d
	}
	d.Hour = 0
	return nextDay(d)
}

// nextDay is the same hour of the day that follows.
func nextDay(d Date) Date {
	d.Weekday = (d.Weekday + 1) % 7
	d.Yearday++
	d.Day++
	if d.Day <= length(d.Year, d.Month) {
		return d
	}
	d.Day = 1
	d.Month++
	if d.Month <= 12 {
		return d
	}
	d.Month, d.Yearday = 1, 1
	d.Year++
	return d
}

// length is the chapter's rule of the days of a month, written another way.
func length(year int64, month int) int {
	switch month {
	case 4, 6, 9, 11:
		return 30
	case 2:
		leap := year%4 == 0
		if year%100 == 0 {
			leap = year%400 == 0
		}
		if leap {
			return 29
		}
		return 28
	}
	return 31
}

// cut is the offset that counts.
func cut(offset int) int {
	if offset > day {
		return day
	}
	if offset < -day {
		return -day
	}
	return offset
}

// atRound moves a date by whole rounds.
func atRound(d Date, rounds int64) Date {
	d.Year += 400 * rounds
	return d
}

// P4.1

func TestLeap(t *testing.T) {
	for _, c := range []struct {
		year int64
		want bool
	}{
		{0, true}, {1, false}, {2, false}, {3, false}, {4, true}, {100, false}, {200, false}, {300, false}, {400, true},
		{-1, false}, {-2, false}, {-3, false}, {-4, true}, {-100, false}, {-200, false}, {-300, false}, {-400, true}, {-404, true},
		{1582, false}, {1600, true}, {1700, false}, {1900, false}, {1970, false}, {1972, true}, {2000, true}, {2023, false}, {2024, true}, {2100, false},
		{300000000000, true}, {-300000000000, true}, {300000000001, false}, {299999999900, false}, {-299999999900, false},
		// 2^63 is divisible by 4, but not by 100.
		{least, true}, {greatest, false}, {greatest - 3, true},
	} {
		if got := Leap(c.year); got != c.want {
			t.Errorf("Leap(%d): %v", c.year, got)
		}
	}
	for year := int64(-1700); year < 1700; year++ {
		if got := Leap(year); got != (length(year, 2) == 29) {
			t.Errorf("Leap(%d): %v", year, got)
		}
	}
}

func TestDays(t *testing.T) {
	want := []int{0, 31, 28, 31, 30, 31, 30, 31, 31, 30, 31, 30, 31, 0}
	for _, year := range []int64{-401, -100, -1, 1, 1900, 1970, 2023, 2100, 300000000001, greatest} {
		for month, n := range want {
			if got := Days(year, month); got != n {
				t.Errorf("Days(%d, %d): %d, want %d", year, month, got, n)
			}
		}
	}
	want[2] = 29
	for _, year := range []int64{-400, -4, 0, 4, 1600, 2000, 2024, 300000000000, least} {
		for month, n := range want {
			if got := Days(year, month); got != n {
				t.Errorf("Days(%d, %d): %d, want %d", year, month, got, n)
			}
		}
	}
}

func TestDaysOfNoMonth(t *testing.T) {
	for _, year := range []int64{-4, 0, 1, 2000, 2023, least, greatest} {
		for _, month := range []int{0, -1, -2, -12, 13, 14, 24, 100, math.MinInt32, math.MaxInt32, math.MinInt, math.MaxInt} {
			if got := Days(year, month); got != 0 {
				t.Errorf("Days(%d, %d): %d", year, month, got)
			}
		}
	}
}

func TestOf(t *testing.T) {
	for _, c := range []struct {
		time   int64
		offset int
		want   Date
	}{
		{0, 3600, Date{1970, 1, 1, 1, 0, 0, 4, 1}},
		{0, 0, Date{1970, 1, 1, 0, 0, 0, 4, 1}},
		{0, -1, Date{1969, 12, 31, 23, 59, 59, 3, 365}},
		{-1, 0, Date{1969, 12, 31, 23, 59, 59, 3, 365}},
		{-1, 1, Date{1970, 1, 1, 0, 0, 0, 4, 1}},
		{day - 1, 0, Date{1970, 1, 1, 23, 59, 59, 4, 1}},
		{day, 0, Date{1970, 1, 2, 0, 0, 0, 5, 2}},
		{1763485200, 0, Date{2025, 11, 18, 17, 0, 0, 2, 322}},
		{951782400 - 1, 0, Date{2000, 2, 28, 23, 59, 59, 1, 59}},
		{951782400, 0, Date{2000, 2, 29, 0, 0, 0, 2, 60}},
		{951868799, 0, Date{2000, 2, 29, 23, 59, 59, 2, 60}},
		{951868800, 0, Date{2000, 3, 1, 0, 0, 0, 3, 61}},
		{978307199, 0, Date{2000, 12, 31, 23, 59, 59, 0, 366}},
		{978307200, 0, Date{2001, 1, 1, 0, 0, 0, 1, 1}},
		{946684800 - 1, 0, Date{1999, 12, 31, 23, 59, 59, 5, 365}},
		{946684800 + round - 1, 0, Date{2399, 12, 31, 23, 59, 59, 5, 365}},
		{946684800 + round, 0, Date{2400, 1, 1, 0, 0, 0, 6, 1}},
		{-62167219200, 0, Date{0, 1, 1, 0, 0, 0, 6, 1}},
		{-62167219201, 0, Date{-1, 12, 31, 23, 59, 59, 5, 365}},
		{-62135596800, 0, Date{1, 1, 1, 0, 0, 0, 1, 1}},
		{-62135596801, 0, Date{0, 12, 31, 23, 59, 59, 0, 366}},
		{greatest, 0, Date{292277026596, 12, 4, 15, 30, 7, 0, 339}},
		{greatest, 86400, Date{292277026596, 12, 5, 15, 30, 7, 1, 340}},
		{greatest, -86400, Date{292277026596, 12, 3, 15, 30, 7, 6, 338}},
		{greatest, math.MaxInt, Date{292277026596, 12, 5, 15, 30, 7, 1, 340}},
		{greatest, math.MinInt, Date{292277026596, 12, 3, 15, 30, 7, 6, 338}},
		{least, 0, Date{-292277022657, 1, 27, 8, 29, 52, 0, 27}},
		{least, 86400, Date{-292277022657, 1, 28, 8, 29, 52, 1, 28}},
		{least, -86400, Date{-292277022657, 1, 26, 8, 29, 52, 6, 26}},
		{least, math.MaxInt, Date{-292277022657, 1, 28, 8, 29, 52, 1, 28}},
		{least, math.MinInt, Date{-292277022657, 1, 26, 8, 29, 52, 6, 26}},
	} {
		if got := Of(c.time, c.offset); got != c.want {
			t.Errorf("Of(%d, %d): %v, want %v", c.time, c.offset, got, c.want)
		}
	}
}

func TestOfOffsetsBeyondADay(t *testing.T) {
	for _, time := range times() {
		for _, offset := range offsets() {
			if got, want := Of(time, offset), Of(time, cut(offset)); got != want {
				t.Fatalf("Of(%d, %d): %v, want %v", time, offset, got, want)
			}
		}
	}
}

func TestOfAnOffsetIsATimeLater(t *testing.T) {
	for _, time := range times() {
		for _, offset := range offsets() {
			sum := new(big.Int).Add(big.NewInt(time), big.NewInt(int64(cut(offset))))
			if !sum.IsInt64() {
				continue
			}
			if got, want := Of(time, offset), Of(sum.Int64(), 0); got != want {
				t.Fatalf("Of(%d, %d): %v, want %v", time, offset, got, want)
			}
		}
	}
}

// All days of some 3200 years are gone through, one behind the other.
func TestOfDayByDay(t *testing.T) {
	time := int64(-62167219200) - 2*round
	want := Date{-800, 1, 1, 0, 0, 0, 6, 1}
	for want.Year <= 2401 {
		if got := Of(time, 0); got != want {
			t.Fatalf("Of(%d): %v, want %v", time, got, want)
		}
		last := want
		last.Hour, last.Minute, last.Second = 23, 59, 59
		if got := Of(time+day-1, 0); got != last {
			t.Fatalf("Of(%d): %v, want %v", time+day-1, got, last)
		}
		time, want = time+day, nextDay(want)
	}
}

func TestOfSecondBySecond(t *testing.T) {
	for _, begin := range []int64{-2 * day, 951782400 - day, 978307200 - day, -62167219200 - day, greatest - 3*day, least} {
		for _, offset := range []int{0, 1, -3601, day, -day} {
			want := Of(begin, offset)
			for time := begin; time < begin+2*day; time++ {
				if got := Of(time, offset); got != want {
					t.Fatalf("Of(%d, %d): %v, want %v", time, offset, got, want)
				}
				want = next(want)
			}
		}
	}
}

func TestOfAgainstTheLibrary(t *testing.T) {
	for _, time := range times() {
		for _, far := range []int64{0, 1, 7, 1000, -1000, 12345678, -12345678} {
			// The library's own years are bounded: nearer times, moved by rounds.
			near := time % (100 * round)
			l := stdtime.Unix(near, 0).UTC()
			want := atRound(Date{
				int64(l.Year()), int(l.Month()), l.Day(), l.Hour(), l.Minute(), l.Second(), int(l.Weekday()), l.YearDay(),
			}, far)
			if got := Of(near+far*round, 0); got != want {
				t.Fatalf("Of(%d): %v, want %v", near+far*round, got, want)
			}
		}
	}
}

// P4.2

// someDates are right ones, of years of each kind.
func someDates() []Date {
	return []Date{
		{1970, 1, 1, 0, 0, 0, 4, 1}, {1970, 1, 1, 23, 59, 59, 4, 1}, {2025, 11, 18, 17, 0, 0, 2, 322},
		{2000, 2, 29, 12, 30, 30, 2, 60}, {2000, 12, 31, 23, 59, 59, 0, 366}, {1999, 12, 31, 23, 59, 59, 5, 365},
		{0, 1, 1, 0, 0, 0, 6, 1}, {0, 2, 29, 0, 0, 0, 2, 60}, {0, 12, 31, 0, 0, 0, 0, 366}, {-1, 12, 31, 23, 59, 59, 5, 365},
		{292277026596, 12, 4, 15, 30, 7, 0, 339}, {-292277022657, 1, 27, 8, 29, 52, 0, 27},
		{300000000000, 1, 1, 0, 0, 0, 6, 1}, {300000000000, 2, 28, 0, 0, 0, 1, 59}, {300000000000, 3, 1, 0, 0, 0, 3, 61},
		{300000000000, 12, 31, 23, 59, 59, 0, 366},
		{-300000000000, 1, 1, 0, 0, 0, 6, 1}, {-300000000000, 2, 28, 0, 0, 0, 1, 59}, {-300000000000, 3, 1, 0, 0, 0, 3, 61},
		{-300000000000, 12, 31, 23, 59, 59, 0, 366},
	}
}

// wrongOf are dates that differ from d, which is right, in one field alone
// and are wrong by it.
func wrongOf(d Date) []Date {
	var l []Date
	add := func(change func(d *Date, n int), values ...int) {
		for _, n := range values {
			wrong := d
			change(&wrong, n)
			if wrong != d {
				l = append(l, wrong)
			}
		}
	}
	add(func(d *Date, n int) { d.Month = n }, 0, -1, 13, 14, -12, math.MinInt, math.MaxInt)
	add(func(d *Date, n int) { d.Month = n }, 1, 2, 3, 4, 5, 6, 7, 8, 9, 10, 11, 12)
	add(func(d *Date, n int) { d.Day = n }, 0, -1, length(d.Year, d.Month)+1, 32, math.MinInt, math.MaxInt)
	add(func(d *Date, n int) { d.Day = n }, d.Day-1, d.Day+1, d.Day+7, -d.Day)
	add(func(d *Date, n int) { d.Hour = n }, -1, 24, 25, -24, math.MinInt, math.MaxInt)
	add(func(d *Date, n int) { d.Minute = n }, -1, 60, 61, -60, math.MinInt, math.MaxInt)
	add(func(d *Date, n int) { d.Second = n }, -1, 60, 61, -60, math.MinInt, math.MaxInt)
	add(func(d *Date, n int) { d.Weekday = n }, -1, 0, 1, 2, 3, 4, 5, 6, 7, 8)
	add(func(d *Date, n int) { d.Weekday = n }, d.Weekday-7, d.Weekday+7, math.MinInt, math.MaxInt)
	add(func(d *Date, n int) { d.Yearday = n }, 0, -1, d.Yearday-1, d.Yearday+1, d.Yearday-7, d.Yearday+7)
	add(func(d *Date, n int) { d.Yearday = n }, -d.Yearday, d.Yearday+365, d.Yearday+366, 367, math.MinInt, math.MaxInt)
	for _, year := range []int64{300000000001, -300000000001, 300000000400, -300000000400, 1 << 62, least, greatest} {
		wrong := d
		wrong.Year = year
		l = append(l, wrong)
	}
	return l
}

func TestRightTakesDates(t *testing.T) {
	for _, d := range someDates() {
		if !Right(d) {
			t.Errorf("Right(%v): false", d)
		}
	}
	for _, time := range times() {
		for _, offset := range offsets() {
			if d := Of(time, offset); !Right(d) {
				t.Fatalf("Right(%v): false", d)
			}
		}
	}
}

func TestRightAndTimeRefuseWrongDates(t *testing.T) {
	for _, d := range someDates() {
		for _, wrong := range wrongOf(d) {
			if Right(wrong) {
				t.Errorf("Right(%v): true", wrong)
			}
			for _, offset := range offsets() {
				if time, ok := Time(wrong, offset); time != 0 || ok {
					t.Errorf("Time(%v, %d): %d, %v", wrong, offset, time, ok)
				}
			}
		}
	}
}

func TestRightOfYearsBeyond(t *testing.T) {
	// Neither weekday nor yearday is wrong: the year alone is.
	for _, d := range []Date{
		{300000000001, 1, 1, 0, 0, 0, 1, 1}, {-300000000001, 12, 31, 23, 59, 59, 5, 365},
		{300000000400, 1, 1, 0, 0, 0, 6, 1}, {-300000000400, 1, 1, 0, 0, 0, 6, 1},
	} {
		if Right(d) {
			t.Errorf("Right(%v): true", d)
		}
		if time, ok := Time(d, 0); time != 0 || ok {
			t.Errorf("Time(%v): %d, %v", d, time, ok)
		}
	}
	// The dates beside them are within.
	for _, d := range []Date{{300000000000, 12, 31, 23, 59, 59, 0, 366}, {-300000000000, 1, 1, 0, 0, 0, 6, 1}} {
		if !Right(d) {
			t.Errorf("Right(%v): false", d)
		}
	}
}

func TestRightOfTheNoDate(t *testing.T) {
	if Right(Date{}) {
		t.Error("the zero value is right")
	}
	if time, ok := Time(Date{}, 0); time != 0 || ok {
		t.Errorf("Time of the zero value: %d, %v", time, ok)
	}
}

func TestRightOfFebruary29th(t *testing.T) {
	for _, year := range []int64{-300000000000, -400, -101, -100, -4, -1, 0, 1, 4, 100, 400, 1900, 2000, 2023, 2024, 2100, 300000000000} {
		right := 0
		for weekday := range 7 {
			if Right(Date{Year: year, Month: 2, Day: 29, Weekday: weekday, Yearday: 60}) {
				right++
			}
		}
		if want := length(year, 2) - 28; right != want {
			t.Errorf("the year %d has %d such dates, want %d", year, right, want)
		}
	}
}

// Of all that a year's fields may be, as many dates are right as it has days.
func TestRightCountsTheDaysOfAYear(t *testing.T) {
	for _, year := range []int64{-300000000000, -100, -1, 0, 1900, 2000, 2023, 300000000000} {
		want := 365 + length(year, 2) - 28
		right := 0
		for month := -1; month <= 14; month++ {
			for d := -1; d <= 33; d++ {
				for weekday := -1; weekday <= 8; weekday++ {
					for yearday := -1; yearday <= 368; yearday++ {
						if Right(Date{Year: year, Month: month, Day: d, Weekday: weekday, Yearday: yearday}) {
							right++
						}
					}
				}
			}
		}
		if right != want {
			t.Errorf("the year %d has %d right dates, want %d", year, right, want)
		}
	}
}

func TestTime(t *testing.T) {
	for _, c := range []struct {
		d      Date
		offset int
		want   int64
	}{
		{Date{1970, 1, 1, 0, 0, 0, 4, 1}, 0, 0},
		{Date{1970, 1, 1, 1, 0, 0, 4, 1}, 3600, 0},
		{Date{1970, 1, 1, 0, 0, 0, 4, 1}, 3600, -3600},
		{Date{1970, 1, 1, 0, 0, 0, 4, 1}, -3600, 3600},
		{Date{1970, 1, 1, 0, 0, 0, 4, 1}, 86400, -day},
		{Date{1970, 1, 1, 0, 0, 0, 4, 1}, 86401, -day},
		{Date{1970, 1, 1, 0, 0, 0, 4, 1}, math.MaxInt, -day},
		{Date{1970, 1, 1, 0, 0, 0, 4, 1}, -86400, day},
		{Date{1970, 1, 1, 0, 0, 0, 4, 1}, -86401, day},
		{Date{1970, 1, 1, 0, 0, 0, 4, 1}, math.MinInt, day},
		{Date{1969, 12, 31, 23, 59, 59, 3, 365}, 0, -1},
		{Date{2025, 11, 18, 17, 0, 0, 2, 322}, 0, 1763485200},
		{Date{2000, 2, 29, 23, 59, 59, 2, 60}, 0, 951868799},
		{Date{0, 1, 1, 0, 0, 0, 6, 1}, 0, -62167219200},
		{Date{-1, 12, 31, 23, 59, 59, 5, 365}, 0, -62167219201},
		{Date{292277026596, 12, 4, 15, 30, 7, 0, 339}, 0, greatest},
		{Date{292277026596, 12, 5, 15, 30, 7, 1, 340}, 86400, greatest},
		{Date{-292277022657, 1, 27, 8, 29, 52, 0, 27}, 0, least},
		{Date{-292277022657, 1, 26, 8, 29, 52, 6, 26}, -86400, least},
	} {
		if got, ok := Time(c.d, c.offset); got != c.want || !ok {
			t.Errorf("Time(%v, %d): %d, %v, want %d", c.d, c.offset, got, ok, c.want)
		}
	}
}

func TestTimeThatNoInt64Holds(t *testing.T) {
	for _, c := range []struct {
		d      Date
		offset int
	}{
		{Date{292277026596, 12, 4, 15, 30, 8, 0, 339}, 0},
		{Date{292277026596, 12, 4, 15, 30, 7, 0, 339}, -1},
		{Date{292277026596, 12, 4, 15, 30, 7, 0, 339}, math.MinInt},
		{Date{292277026596, 12, 5, 15, 30, 8, 1, 340}, 86400},
		{Date{292277026596, 12, 5, 15, 30, 8, 1, 340}, math.MaxInt},
		{Date{292277026596, 12, 31, 23, 59, 59, 6, 366}, 0},
		{Date{-292277022657, 1, 27, 8, 29, 51, 0, 27}, 0},
		{Date{-292277022657, 1, 27, 8, 29, 52, 0, 27}, 1},
		{Date{-292277022657, 1, 27, 8, 29, 52, 0, 27}, math.MaxInt},
		{Date{-292277022657, 1, 26, 8, 29, 51, 6, 26}, -86400},
		{Date{-292277022657, 1, 26, 8, 29, 51, 6, 26}, math.MinInt},
		{Date{300000000000, 1, 1, 0, 0, 0, 6, 1}, 0},
		{Date{300000000000, 12, 31, 23, 59, 59, 0, 366}, 86400},
		{Date{-300000000000, 1, 1, 0, 0, 0, 6, 1}, 0},
		{Date{-300000000000, 12, 31, 23, 59, 59, 0, 366}, -86400},
	} {
		if !Right(c.d) {
			t.Errorf("Right(%v): false", c.d)
		}
		if got, ok := Time(c.d, c.offset); got != 0 || ok {
			t.Errorf("Time(%v, %d): %d, %v", c.d, c.offset, got, ok)
		}
	}
}

// Around either end of what an int64 holds, the times are worked out in
// greater numbers.
func TestTimeAtTheEnds(t *testing.T) {
	for _, end := range []int64{least, greatest} {
		for _, from := range []int{-day, 0, day} {
			d := Of(end, from)
			for _, offset := range offsets() {
				want := new(big.Int).Add(big.NewInt(end), big.NewInt(int64(from)))
				want.Sub(want, big.NewInt(int64(cut(offset))))
				got, ok := Time(d, offset)
				if ok != want.IsInt64() || ok && got != want.Int64() || !ok && got != 0 {
					t.Errorf("Time(%v, %d): %d, %v, want %v", d, offset, got, ok, want)
				}
			}
		}
	}
}

// P4.3

func TestTimeOfOf(t *testing.T) {
	for _, time := range times() {
		for _, offset := range offsets() {
			d := Of(time, offset)
			if got, ok := Time(d, offset); got != time || !ok {
				t.Fatalf("Time(Of(%d, %d)): %d, %v", time, offset, got, ok)
			}
		}
	}
}

func TestOfTime(t *testing.T) {
	for _, d := range someDates() {
		for _, offset := range offsets() {
			if time, ok := Time(d, offset); ok && Of(time, offset) != d {
				t.Errorf("Of(Time(%v, %d)): %v", d, offset, Of(time, offset))
			}
		}
	}
}

func TestOneSecondLaterIsTheNextDate(t *testing.T) {
	for _, time := range times() {
		if time == greatest {
			continue
		}
		for _, offset := range offsets() {
			d := Of(time, offset)
			if got, want := Of(time+1, offset), next(d); got != want {
				t.Fatalf("behind %v: %v, want %v", d, got, want)
			}
		}
	}
}
