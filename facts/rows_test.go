package facts

import (
	"fmt"
	"math"
	"strings"
	"testing"

	"domesday/vfs"
)

// P16.1: one device alone: a root, and what stands below it.
func TestRowsOfOneDevice(t *testing.T) {
	s := newSite(t)
	s.isRows(0, Row{Dev: 1, Used: 4, Percent: 100, At: "/"})
	s.isRows(100, Row{Dev: 1, All: 100, Used: 4, Left: 96, Percent: 4, At: "/"})
	d := s.dir(0, "d")
	f := s.file(d, "f", 4097)
	s.name(d, "g", f)
	s.link(d, "l", "f")
	s.file(d, "empty", 0)
	// A node counts once, however many names it has.
	s.isRows(100, Row{Dev: 1, All: 100, Used: 16, Left: 84, Percent: 16, At: "/"})
}

// P16.1: no number below 0 is so many in all.
func TestAll(t *testing.T) {
	s := newSite(t)
	s.dir(0, "d")
	for _, all := range []int64{0, -1, -8, -1000, math.MinInt64, math.MinInt64 + 1} {
		s.isRows(all, Row{Dev: 1, Used: 8, Percent: 100, At: "/"})
	}
	for _, want := range []Row{
		{1, 1, 8, 0, 100, "/"}, {1, 7, 8, 0, 100, "/"}, {1, 8, 8, 0, 100, "/"}, {1, 9, 8, 1, 89, "/"}, {1, 16, 8, 8, 50, "/"},
		{1, 799, 8, 791, 2, "/"}, {1, 800, 8, 792, 1, "/"}, {1, 801, 8, 793, 1, "/"}, {1, 1000000, 8, 999992, 1, "/"},
		{1, math.MaxInt64 - 1, 8, math.MaxInt64 - 9, 1, "/"}, {1, math.MaxInt64, 8, math.MaxInt64 - 8, 1, "/"},
	} {
		s.isRows(want.All, want)
	}
}

// P16.1: the part that is used is rounded up.
func TestPercentsOfRows(t *testing.T) {
	s := newSite(t)
	s.file(0, "f", 4096*24)
	for all, percent := range map[int64]int64{
		99: 100, 100: 100, 101: 100, 102: 99, 125: 80, 126: 80, 127: 79, 199: 51, 200: 50, 201: 50, 9999: 2, 10000: 1, 10001: 1,
	} {
		s.isRows(all, Row{1, all, 100, max(all-100, 0), percent, "/"})
	}
}

// P16.1: blocks that are many, together.
func TestManyBlocks(t *testing.T) {
	s := newSite(t)
	for i := range 299 {
		s.file(0, fmt.Sprint(i), math.MaxInt64)
	}
	const used = 299<<53 + 4
	s.isRows(math.MaxInt64, Row{1, math.MaxInt64, used, math.MaxInt64 - used, 30, "/"})
	s.isRows(used, Row{1, used, used, 0, 100, "/"})
	s.isRows(used-1, Row{1, used - 1, used, 0, 100, "/"})
	s.isRows(used+1, Row{1, used + 1, used, 1, 100, "/"})
	s.isRows(0, Row{1, 0, used, 0, 100, "/"})
}

// P16.1: each device has its row, in the order in which they were mounted.
func TestRowsOfDevices(t *testing.T) {
	s := newSite(t)
	a, b := s.dir(0, "a b"), s.dir(0, "c")
	s.dir(a, "in")
	two := s.cover(b, 0)
	s.file(two, "f", 5000)
	three := s.cover(a, 0)
	in := s.dir(three, "in")
	s.file(0, "f", 1)
	four := s.cover(in, 0700)
	s.link(four, "l", "x")
	s.isRows(20,
		Row{1, 20, 20, 0, 100, "/"}, Row{2, 20, 12, 8, 60, "/c"}, Row{3, 20, 8, 12, 40, "/a b"}, Row{4, 20, 4, 16, 20, "/a b/in"})
	// Who may go there doesn't count, what can't be read there neither.
	s.mode(three, 0)
	s.unreadable(two)
	s.unreadable(four)
	s.isRows(-20,
		Row{1, 0, 20, 0, 100, "/"}, Row{2, 0, 12, 0, 100, "/c"}, Row{3, 0, 8, 0, 100, "/a b"}, Row{4, 0, 4, 0, 100, "/a b/in"})
}

// P16.1: of a device whose first directory has no real path there is a ?.
func TestDevicesThatAreNowhere(t *testing.T) {
	s := newSite(t)
	d := s.dir(0, "d")
	e := s.dir(d, "e")
	s.cover(s.dir(e, "x"), 0)
	two := Row{2, 10, 4, 6, 40, "/d/e/x"}
	one, three := Row{1, 10, 16, 0, 100, "/"}, Row{3, 10, 4, 6, 40, "/d/e"}
	s.isRows(10, one, two)
	// What stands above it is covered in its turn.
	first := s.cover(e, 0)
	two.At = "?"
	s.isRows(10, one, two, three)
	// There is an entry of that name again, of another directory.
	s.dir(first, "x")
	three.Used, three.Left, three.Percent = 8, 2, 80
	s.isRows(10, one, two, three)
	s.unreadable(d)
	three.At = "?"
	s.isRows(10, one, two, three)
	s.unreadable(0)
	s.isRows(10, one, two, three)
}

// P16.1: a real path in a directory that can't be read isn't told, but that
// of the root is.
func TestUnreadableRoot(t *testing.T) {
	s := newSite(t)
	s.cover(s.dir(0, "d"), 0)
	s.unreadable(0)
	s.isRows(0, Row{Dev: 1, Used: 8, Percent: 100, At: "/"}, Row{Dev: 2, Used: 4, Percent: 100, At: "?"})
}

// P16.1: as many devices as there may be.
func TestManyDevices(t *testing.T) {
	s := newSite(t)
	at, path := 0, ""
	want := []Row{{1, 9, 8, 1, 89, "/"}}
	for dev := 2; s.f.Count()+2 <= 300; dev++ {
		at = s.cover(s.dir(at, "d"), 0)
		path += "/d"
		want = append(want, Row{dev, 9, 8, 1, 89, path})
	}
	last := &want[len(want)-1]
	last.Used, last.Left, last.Percent = 4, 5, 45
	s.isRows(9, want...)
}

// P16.1: rows are told in the table just as they are.
func TestTable(t *testing.T) {
	isTable(t, nil, heads)
	isTable(t, rows(), heads)
	isTable(t, rows(Row{1, 2, 3, 4, 5, "/"}),
		"Device 1K-blocks Used Available Use% Mounted",
		"1              2    3         4   5% /")
	isTable(t, rows(Row{}),
		"Device 1K-blocks Used Available Use% Mounted",
		"0              0    0         0   0% ")
	isTable(t, rows(Row{1, 2, 3, 4, 5, "/"}, Row{20, 30, 40, 50, 60, "/a b"}, Row{1, 2, 3, 4, 5, "/"}),
		"Device 1K-blocks Used Available Use% Mounted",
		"1              2    3         4   5% /",
		"20            30   40        50  60% /a b",
		"1              2    3         4   5% /")
}

// P16.1: a column is as wide as its widest text, wherever it stands.
func TestWidestTexts(t *testing.T) {
	wide := Row{1234567, 1234567890, 12345, 1234567890, 1234, "/longer/than/its/head"}
	small := Row{1, 2, 3, 4, 5, "/"}
	const (
		head      = "Device   1K-blocks  Used  Available  Use% Mounted"
		wideLine  = "1234567 1234567890 12345 1234567890 1234% /longer/than/its/head"
		smallLine = "1                2     3          4    5% /"
	)
	isTable(t, rows(wide), head, wideLine)
	isTable(t, rows(wide, small, small), head, wideLine, smallLine, smallLine)
	isTable(t, rows(small, wide, small), head, smallLine, wideLine, smallLine)
	isTable(t, rows(small, small, wide), head, smallLine, smallLine, wideLine)
	// Just as wide as the head, and one wider.
	isTable(t, rows(Row{123456, 123456789, 1234, 123456789, 123, "/mounts"}),
		"Device 1K-blocks Used Available Use% Mounted",
		"123456 123456789 1234 123456789 123% /mounts")
	isTable(t, rows(Row{Dev: 1234567}), "Device  1K-blocks Used Available Use% Mounted", "1234567         0    0         0   0% ")
	isTable(t, rows(Row{All: 1234567890}), "Device  1K-blocks Used Available Use% Mounted", "0      1234567890    0         0   0% ")
	isTable(t, rows(Row{Used: 12345}), "Device 1K-blocks  Used Available Use% Mounted", "0              0 12345         0   0% ")
	isTable(t, rows(Row{Left: 1234567890}), "Device 1K-blocks Used  Available Use% Mounted", "0              0    0 1234567890   0% ")
	isTable(t, rows(Row{Percent: 1234}), "Device 1K-blocks Used Available  Use% Mounted", "0              0    0         0 1234% ")
	isTable(t, rows(Row{At: "/wider!"}), heads, "0              0    0         0   0% /wider!")
	isTable(t, rows(Row{At: "/wider!!"}), heads, "0              0    0         0   0% /wider!!")
}

// P16.1: numbers below 0, the least and the greatest ones.
func TestNumbersOfTables(t *testing.T) {
	isTable(t, rows(Row{-1, -2, -3, -4, -5, "/"}), heads, "-1            -2   -3        -4  -5% /")
	const blank = "                   "
	isTable(t,
		rows(Row{math.MinInt, math.MinInt64, math.MinInt64, math.MinInt64, math.MinInt64, "least"},
			Row{math.MaxInt, math.MaxInt64, math.MaxInt64, math.MaxInt64, math.MaxInt64, "most"},
			Row{0, 0, 0, 0, 0, "none"}),
		"Device               "+"           1K-blocks"+" "+"                Used"+" "+"           Available"+" "+"                 Use%"+" Mounted",
		"-9223372036854775808 -9223372036854775808 -9223372036854775808 -9223372036854775808 -9223372036854775808% least",
		"9223372036854775807   9223372036854775807  9223372036854775807  9223372036854775807  9223372036854775807% most",
		"0"+blank+" "+blank+"0 "+blank+"0 "+blank+"0 "+blank+"0% none")
}

// P16.1: what stands last is told as it is, with nothing behind it.
func TestPlacesOfTables(t *testing.T) {
	const ahead = "7              0    0         0   0% "
	many := strings.Repeat("/many", 4000)
	for _, place := range []string{"", "?", "/", "/a b", " ", "/a ", "\xff", "\u3042", "/a\nb", "/mounts", "/mounted", many} {
		isTable(t, rows(Row{Dev: 7, At: place}), heads, ahead+place)
		isTable(t, rows(Row{Dev: 7, At: place}, Row{Dev: 7, At: many}, Row{Dev: 7}), heads, ahead+place, ahead+many, ahead)
	}
}

// P16.1: many rows, each of which is told.
func TestManyRows(t *testing.T) {
	var l []Row
	want := []string{"Device 1K-blocks Used Available Use% Mounted"}
	for i := range 1000 {
		l = append(l, Row{i, 3, 2, 1, 67, "/" + fmt.Sprint(i)})
		want = append(want, fmt.Sprintf("%-6d         3    2         1  67%% /%d", i, i))
	}
	isTable(t, l, want...)
	isTable(t, append(l, l...), append(want, want[1:]...)...)
}

// P16.1: the rows of a file system, as a table.
func TestTableOfRows(t *testing.T) {
	s := newSite(t)
	d := s.dir(0, "d")
	s.do(vfs.Change{Kind: 1, At: s.cover(d, 0), Name: "f", N: 4096 * 300})
	isTable(t, Rows(s.f, 2000),
		"Device 1K-blocks Used Available Use% Mounted",
		"1           2000    8      1992   1% /",
		"2           2000 1204       796  61% /d")
}
