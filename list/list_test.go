package list

import (
	"fmt"
	"math"
	"slices"
	"strings"
	"testing"

	"domesday/api"
	"domesday/vfs"
)

// nones are numbers below 0, and far too great.
var nones = []int{-1, -2, math.MinInt, math.MaxInt, math.MaxInt32 + 1}

// P15.1: the chapter's example.
func TestRowsOfTheExample(t *testing.T) {
	s := newSite(t)
	l := named(s.file("f", 5), "f")
	s.isRows(l, How{Form: 4, Now: 1e9}, "-rw-r--r-- 1 0 0 5 Jan  1  1970 f")
	s.isRows(l, How{Form: 4}, "-rw-r--r-- 1 0 0 5 Jan  1 00:00 f")
	s.isRows(l, How{}, "f")
	s.isTotal(l, 4)
}

// P15.1
func TestNoEntries(t *testing.T) {
	s := newSite(t)
	s.file("f", 5)
	for _, form := range append([]int{0, 1, 2, 3, 4, 5}, nones...) {
		for _, l := range [][]api.Entry{nil, {}} {
			how := How{Form: form, Inode: true, Blocks: true, Mark: true}
			s.isRows(l, how)
			s.isSorted(l, how)
			s.isTotal(l, 0)
		}
	}
}

// P15.1: an entry of a node that there isn't is left out, wherever it stands.
func TestEntriesOfNodesThatThereAreNot(t *testing.T) {
	s := newSite(t)
	a, b := entry("a", s.file("a", 5000)), entry("b", s.dir("b"))
	count := s.f.Count()
	for _, id := range append([]int{count, count + 1, api.MaxNodes}, nones...) {
		no := entry("aa", id)
		for _, order := range []int{-1, 0} {
			how := How{Order: order}
			s.isSorted(entries(no), how)
			s.isSorted(entries(no, no), how)
			s.isSorted(entries(no, a, b), how, a, b)
			s.isSorted(entries(a, no, b), how, a, b)
			s.isSorted(entries(a, b, no), how, a, b)
			s.isSorted(entries(no, a, no, no, b, no), how, a, b)
		}
		for form := -1; form <= 5; form++ {
			s.isRows(entries(no), How{Form: form, Inode: true, Blocks: true})
		}
		s.isRows(entries(no, a, no, b, no), How{Blocks: true}, "8 a", "4 b")
		s.isRows(entries(no, a, no, b, no), long, "-rw-r--r-- 1 0 0 5000 1970-01-01 a", "drwxr-xr-x 2 0 0 4096 1970-01-01 b")
		s.isTotal(entries(no), 0)
		s.isTotal(entries(no, a, no, b, no), 12)
	}
	nothing := &vfs.FS{}
	if got := Rows(nothing, entries(entry("/", 0)), How{}); len(got) > 0 {
		t.Errorf("Rows of no file system's root: %q", got)
	}
}

// P15.1: each entry is told, and counts, though another one is of its node.
func TestTwoEntriesOfOneNode(t *testing.T) {
	s := newSite(t)
	f := s.file("f", 5000)
	s.name("g", f)
	l := named(f, "g", "f", "g")
	s.isSorted(l, How{}, entry("f", f), entry("g", f), entry("g", f))
	s.isRows(l, How{Inode: true}, "2 f", "2 g", "2 g")
	s.isRows(l, How{Form: 4, Now: 1e9, Order: 9},
		"-rw-r--r-- 2 0 0 5000 Jan  1  1970 g", "-rw-r--r-- 2 0 0 5000 Jan  1  1970 f", "-rw-r--r-- 2 0 0 5000 Jan  1  1970 g")
	s.isTotal(l, 24)
	s.isTotal(l[1:], 16)
}

// P15.1: of a covered directory what covers it is told.
func TestEntriesOfDevices(t *testing.T) {
	s := newSite(t)
	s.file("f", 1)
	d := s.dir("d")
	s.owner(d, 8, 9)
	s.time(d, 1, 86400)
	first := s.cover(d, 01777)
	s.owner(first, 70, 80)
	s.time(first, 1, 2*86400)
	s.do(vfs.Change{Kind: 0, At: first, Name: "in"})
	e := s.dir("e")
	s.owner(e, 5, 6)
	how := long
	how.Inode, how.Mark, how.Clock = true, true, 1
	s.isRows(entries(entry("d", d), entry("e", e), entry("x", first)), how,
		"1 drwxrwxrwt 3 70 80 4096 1970-01-03 d/",
		"4 drwxr-xr-x 2  5  6 4096 1970-01-01 e/",
		"1 drwxrwxrwt 3 70 80 4096 1970-01-03 x/")
	// The order, too, is of the times of what covers.
	s.time(e, 1, 86400+1)
	l := entries(entry("e", e), entry("d", d))
	s.isSorted(l, How{Order: 2, Clock: 1}, entry("d", d), entry("e", e))
	// The entries are told as they are.
	s.isSorted(entries(entry("x", first), entry("d", d)), How{}, entry("d", d), entry("x", first))
	s.isTotal(entries(entry("x", first), entry("d", d)), 8)
}

// ordered is a list for all orders: names, sizes, times and kinds.
func ordered(s site) []api.Entry {
	s.t.Helper()
	b10 := s.file("b10", 5)
	s.time(b10, 0, -3)
	b9 := s.file("b9", 100)
	s.time(b9, 0, 40)
	a := s.dir("a.z")
	s.time(a, 0, 7)
	s.mode(a, 0700)
	d := s.dir("d")
	s.time(d, 0, 40)
	l := s.link("c.a", "x")
	s.time(l, 0, 8)
	return entries(entry("b9", b9), entry("d", d), entry("b10", b10), entry("c.a", l), entry("a.z", a))
}

// P15.1
func TestOrders(t *testing.T) {
	s := newSite(t)
	l := ordered(s)
	for _, c := range []struct {
		order                      int
		plain, reverse, dirs, both string
	}{
		{0, "a.z b10 b9 c.a d", "d c.a b9 b10 a.z", "a.z d b10 b9 c.a", "d a.z c.a b9 b10"},
		{1, "a.z d b9 b10 c.a", "c.a b10 b9 d a.z", "a.z d b9 b10 c.a", "d a.z c.a b10 b9"},
		{2, "b9 d c.a a.z b10", "b10 a.z c.a d b9", "d a.z b9 c.a b10", "a.z d b10 c.a b9"},
		{3, "b10 b9 d c.a a.z", "a.z c.a d b9 b10", "d a.z b10 b9 c.a", "a.z d c.a b9 b10"},
		{4, "a.z b9 b10 c.a d", "d c.a b10 b9 a.z", "a.z d b9 b10 c.a", "d a.z c.a b10 b9"},
	} {
		s.isOrder(l, How{Order: c.order}, c.plain)
		s.isOrder(l, How{Order: c.order, Reverse: true}, c.reverse)
		s.isOrder(l, How{Order: c.order, Dirs: true}, c.dirs)
		s.isOrder(l, How{Order: c.order, Reverse: true, Dirs: true}, c.both)
	}
}

// P15.1: of an order that is none all stay as they stand, whatever else is
// asked for.
func TestOrdersThatAreNone(t *testing.T) {
	s := newSite(t)
	l := ordered(s)
	for _, order := range append([]int{5, 6, 256}, nones...) {
		for _, how := range []How{{}, {Reverse: true}, {Dirs: true}, {Reverse: true, Dirs: true}} {
			how.Order = order
			s.isOrder(l, how, "b9 d b10 c.a a.z")
		}
	}
}

// P15.1: what is alike stays as it stood.
func TestOrderOfWhatIsAlike(t *testing.T) {
	s := newSite(t)
	f, g, d := s.file("f", 5), s.file("g", 5), s.dir("d")
	x, y, z := entry("n", f), entry("n", g), entry("n", d)
	for _, order := range []int{0, 3, 4, -1} {
		for _, reverse := range []bool{false, true} {
			how := How{Order: order, Reverse: reverse}
			s.isSorted(entries(x, y, z), how, x, y, z)
			s.isSorted(entries(z, y, x), how, z, y, x)
			s.isSorted(entries(y, z, x, y), how, y, z, x, y)
		}
	}
	s.isSorted(entries(y, z, x, y), How{Dirs: true}, z, y, x, y)
	s.isSorted(entries(y, z, x, y), How{Order: 1}, z, y, x, y)
	s.isSorted(entries(y, z, x, y), How{Order: 1, Reverse: true}, y, x, y, z)
}

// P15.1: the sizes are those of the nodes, at all bounds.
func TestSizes(t *testing.T) {
	s := newSite(t)
	l := entries(
		entry("none", s.file("none", 0)), entry("one", s.file("one", 1)), entry("most", s.file("most", math.MaxInt64)),
		entry("less", s.file("less", math.MaxInt64-1)), entry("link", s.link("link", "xy")), entry("dir", s.dir("dir")))
	s.isOrder(l, How{Order: 1}, "most less dir link one none")
	s.isOrder(l, How{Order: 1, Reverse: true}, "none one link dir less most")
	how := long
	how.Blocks = true
	s.isRows(l, how,
		"               0 -rw-r--r-- 1 0 0                   0 1970-01-01 none",
		"               4 -rw-r--r-- 1 0 0                   1 1970-01-01 one",
		"9007199254740992 -rw-r--r-- 1 0 0 9223372036854775807 1970-01-01 most",
		"9007199254740992 -rw-r--r-- 1 0 0 9223372036854775806 1970-01-01 less",
		"               0 lrwxrwxrwx 1 0 0                   2 1970-01-01 link -> xy",
		"               4 drwxr-xr-x 2 0 0                4096 1970-01-01 dir")
}

// P15.1: the clock tells by which time is ordered, and which is told.
func TestClocks(t *testing.T) {
	s := newSite(t)
	a, b, c := s.file("a", 1), s.file("b", 1), s.file("c", 1)
	for clock, times := range [][]int64{{1, 2, 3}, {2, 3, 1}, {3, 1, 2}} {
		for at, id := range []int{a, b, c} {
			s.time(id, clock, times[at]*86400)
		}
	}
	l := entries(entry("a", a), entry("b", b), entry("c", c))
	check := func(clock int, names string, days ...string) {
		t.Helper()
		s.isOrder(l, How{Order: 2, Clock: clock}, names)
		how := How{Form: 4, Clock: clock, Style: 3, Own: "%d"}
		s.isRows(l, how, "-rw-r--r-- 1 0 0 1 "+days[0]+" a", "-rw-r--r-- 1 0 0 1 "+days[1]+" b", "-rw-r--r-- 1 0 0 1 "+days[2]+" c")
	}
	check(0, "c b a", "02", "03", "04")
	check(2, "a c b", "04", "02", "03")
	for _, clock := range append([]int{1, 3, 4}, nones...) {
		check(clock, "b a c", "03", "04", "02")
	}
}

// P15.1: times below 0, and far away.
func TestTimes(t *testing.T) {
	s := newSite(t)
	var l []api.Entry
	for _, c := range []struct {
		name string
		time int64
	}{
		{"zero", 0}, {"least", math.MinInt64}, {"below", -1}, {"greatest", math.MaxInt64}, {"after", 1}, {"old", -1e15},
	} {
		id := s.file(c.name, 1)
		s.time(id, 0, c.time)
		l = append(l, entry(c.name, id))
	}
	s.isOrder(l, How{Order: 2}, "greatest after zero below old least")
	s.isRows(l, How{Form: 4, Order: 2, Style: 3, Own: "%s"},
		"-rw-r--r-- 1 0 0 1 9223372036854775807 greatest", "-rw-r--r-- 1 0 0 1 1 after", "-rw-r--r-- 1 0 0 1 0 zero",
		"-rw-r--r-- 1 0 0 1 -1 below", "-rw-r--r-- 1 0 0 1 -1000000000000000 old",
		"-rw-r--r-- 1 0 0 1 -9223372036854775808 least")
	s.isRows(l[2:3], How{Form: 4, Style: 1}, "-rw-r--r-- 1 0 0 1 1969-12-31 23:59 below")
	s.isRows(l[5:], How{Form: 4, Style: 1}, "-rw-r--r-- 1 0 0 1 -31686769-06-29 22:13 old")
}

// P15.1: names of all kinds.
func TestNames(t *testing.T) {
	s := newSite(t)
	f := s.file("f", 5)
	many := strings.Repeat("many ", 3000)
	names := []string{"", "a", "a", "\u3042", "e\u0301", "\xff", "\x00", "b\nc", many, "/", "..", "x/y"}
	l := named(f, names...)
	s.isRows(l, How{Order: 7}, names...)
	sorted := slices.Sorted(slices.Values(names))
	s.isRows(l, How{}, sorted...)
	how := long
	var want []string
	for _, name := range names {
		want = append(want, "-rw-r--r-- 1 0 0 5 1970-01-01 "+name)
	}
	s.isRows(l, how, want...)
	// A character's width tells where the next column begins.
	for _, form := range []int{1, 2} {
		how := How{Form: form, Most: 8}
		s.isRows(named(f, "\u3042", "z"), how, "z  \u3042")
		s.isRows(named(f, "\u3042", "\u3043"), how, "\u3042  \u3043")
		s.isRows(named(f, "\xe3\x81", "\u3042"), how, "\xe3\x81  \u3042")
		s.isRows(named(f, "\xe3\x81\x81", "\xe3\x81\xff\xff\xff"), how, "\xe3\x81\x81", "\xe3\x81\xff\xff\xff")
		s.isRows(named(f, "e\u0301", "f", "g"), how, "e\u0301  f  g")
	}
	s.isRows(named(f, "\u3042", "z", "\u3043"), How{Form: 3, Most: 5}, "z,", "\u3042,", "\u3043")
	s.isRows(named(f, "\u3042", "z", "\u3043"), How{Form: 3, Most: 6}, "z, \u3042,", "\u3043")
	s.isRows(named(f, "", "", ""), How{Form: 3, Most: 3}, ", ,", "")
}

// P15.1
func TestForms(t *testing.T) {
	s := newSite(t)
	f := s.file("f", 5)
	l := named(f, "e", "c", "dd", "a", "bbb")
	s.isRows(l, How{Form: 1, Most: 10}, "a    c   e", "bbb  dd")
	s.isRows(l, How{Form: 2, Most: 10}, "a   bbb  c", "dd  e")
	s.isRows(l, How{Form: 3, Most: 10}, "a, bbb, c,", "dd, e")
	for _, form := range append([]int{0, 5, 6}, nones...) {
		for _, most := range []int{0, 10, -1} {
			s.isRows(l, How{Form: form, Most: most}, "a", "bbb", "c", "dd", "e")
		}
	}
	for _, most := range []int{0, 1, 10, -1} {
		s.isRows(l, How{Form: 4, Most: most, Style: -1},
			"-rw-r--r-- 1 0 0 5  a", "-rw-r--r-- 1 0 0 5  bbb", "-rw-r--r-- 1 0 0 5  c", "-rw-r--r-- 1 0 0 5  dd", "-rw-r--r-- 1 0 0 5  e")
	}
	// The order is of the names alone, that of the rows is the form's.
	s.isRows(l, How{Form: 1, Most: 10, Reverse: true}, "e   c    a", "dd  bbb")
	s.isRows(l, How{Form: 2, Most: 10, Order: -1}, "e  c    dd", "a  bbb")
}

// P15.1: just what fits stands in one row, and what is one less doesn't.
func TestMost(t *testing.T) {
	s := newSite(t)
	f := s.file("f", 5)
	l := named(f, "a", "bb", "c")
	for _, most := range []int{0, 8, 9, math.MaxInt, -1, -9, math.MinInt} {
		s.isRows(l, How{Form: 1, Most: most}, "a  bb  c")
		s.isRows(l, How{Form: 2, Most: most}, "a  bb  c")
		s.isRows(l, How{Form: 3, Most: most}, "a, bb, c")
	}
	s.isRows(l, How{Form: 1, Most: 7}, "a   c", "bb")
	s.isRows(l, How{Form: 2, Most: 7}, "a  bb", "c")
	s.isRows(l, How{Form: 3, Most: 7}, "a, bb,", "c")
	for form := 1; form <= 2; form++ {
		s.isRows(l, How{Form: form, Most: 1}, "a", "bb", "c")
	}
	s.isRows(l, How{Form: 3, Most: 1}, "a,", "bb,", "c")
	// What stands ahead of a name, and behind it, needs its room, too.
	how := How{Form: 1, Most: 11, Inode: true, Mark: true}
	s.mode(f, 0755)
	s.isRows(named(f, "a", "b"), how, "2 a*  2 b*")
	s.isRows(named(f, "a", "b"), How{Form: 3, Most: 10, Inode: true, Mark: true}, "2 a*, 2 b*")
	how.Most = 9
	s.isRows(named(f, "a", "b"), how, "2 a*", "2 b*")
	s.isRows(named(f, "a", "b"), How{Form: 3, Most: 9, Inode: true, Mark: true}, "2 a*,", "2 b*")
	how.Most, how.Quote = 14, 4
	s.isRows(named(f, "a", "b"), how, `2 "a"*  2 "b"*`)
	how.Most = 13
	s.isRows(named(f, "a", "b"), how, `2 "a"*`, `2 "b"*`)
}

// P15.1: names, and links' texts, stand in quotes of the style.
func TestQuotes(t *testing.T) {
	s := newSite(t)
	l := named(s.link("l", "to it\t\"'"), "a b\n")
	const ahead = "lrwxrwxrwx 1 0 0 8 1970-01-01 "
	for style, want := range [][2]string{
		{"a b\n", "to it\t\"'"},
		{"'a b\n'", "'to it\t\"'\\'''"},
		{"'a b\n'", "'to it\t\"'\\'''"},
		{"'a b'$'\\n'", "'to it'$'\\t''\"'\\'''"},
		{`"a b\n"`, `"to it\t\"'"`},
		{`a\ b\n`, `to\ it\t"'`},
	} {
		how := long
		how.Quote = style
		s.isRows(l, how, ahead+want[0]+" -> "+want[1])
		for form := range 4 {
			s.isRows(l, How{Form: form, Quote: style}, want[0])
		}
		how.Mark = true
		s.isRows(l, how, ahead+want[0]+"@ -> "+want[1])
	}
	// Of a style that is none layer 3 writes nothing.
	for _, style := range append([]int{6, 7}, nones...) {
		how := long
		how.Quote = style
		s.isRows(l, how, ahead+" -> ")
		s.isRows(l, How{Quote: style}, "")
		s.isRows(l, How{Quote: style, Mark: true, Inode: true}, "2 @")
	}
	// The order is that of the names without their quotes.
	s.isRows(named(0, "a b", "a", "b"), How{Quote: 1}, "a", "'a b'", "b")
	s.isRows(named(0, "a b", "a!", "a"), How{Quote: 5}, "a", `a\ b`, "a!")
}

// P15.1: of a link its text, which is empty where it can't be read.
func TestLinks(t *testing.T) {
	s := newSite(t)
	plain, lost := s.link("plain", "to"), s.link("lost", "secret")
	s.unreadable(lost)
	l := entries(entry("plain", plain), entry("lost", lost))
	for style, empty := range []string{"", "''", "''", "''", `""`, ""} {
		how := long
		how.Quote = style
		got := Rows(s.f, l, how)
		if want := " -> " + empty; len(got) != 2 || !strings.HasSuffix(got[1], want) || strings.Contains(got[1], "secret") {
			t.Errorf("in the style %d: %q, want %q behind the second one's name", style, got, want)
		}
	}
	s.isRows(l, long, "lrwxrwxrwx 1 0 0 2 1970-01-01 plain -> to", "lrwxrwxrwx 1 0 0 6 1970-01-01 lost -> ")
	for form := range 4 {
		s.isRows(l[:1], How{Form: form}, "plain")
	}
	// What can't be read, and is no link, has none.
	bad, badDir := s.file("bad", 1), s.dir("badDir")
	s.unreadable(bad)
	s.unreadable(badDir)
	s.isRows(entries(entry("f", bad), entry("d", badDir)), long,
		"-rw-r--r-- 1 0 0    1 1970-01-01 f", "drwxr-xr-x 2 0 0 4096 1970-01-01 d")
	// A link isn't followed, wherever it goes.
	s.isRows(named(s.link("up", "/"), "up"), How{Mark: true, Form: 4, Style: 9}, "lrwxrwxrwx 1 0 0 1  up@ -> /")
}

// P15.1
func TestMarks(t *testing.T) {
	s := newSite(t)
	run, covered := s.file("run", 1), s.dir("covered")
	s.mode(run, 0100)
	s.cover(covered, 0)
	l := entries(entry("file", s.file("file", 1)), entry("run", run), entry("dir", s.dir("dir")),
		entry("link", s.link("link", "x")), entry("dev", covered), entry("root", 0))
	with := []string{"file", "run*", "dir/", "link@", "dev/", "root/"}
	without := []string{"file", "run", "dir", "link", "dev", "root"}
	for _, form := range []int{0, 5, -1} {
		s.isRows(l, How{Form: form, Order: -1, Mark: true}, with...)
		s.isRows(l, How{Form: form, Order: -1}, without...)
	}
	for form := 1; form <= 2; form++ {
		s.isRows(l, How{Form: form, Order: -1, Mark: true}, strings.Join(with, "  "))
		s.isRows(l, How{Form: form, Order: -1}, strings.Join(without, "  "))
	}
	s.isRows(l, How{Form: 3, Order: -1, Mark: true}, strings.Join(with, ", "))
	s.isRows(l, How{Form: 3, Order: -1}, strings.Join(without, ", "))
	// A mark stands behind the quotes.
	s.isRows(l, How{Order: -1, Mark: true, Quote: 2}, "'file'", "'run'*", "'dir'/", "'link'@", "'dev'/", "'root'/")
	// It isn't ordered by.
	s.isOrder(entries(entry("a", l[2].Id), entry("a!", l[0].Id)), How{}, "a a!")
	s.isRows(entries(entry("a!", l[0].Id), entry("a", l[2].Id)), How{Mark: true}, "a/", "a!")
}

// P15.1: numbers and blocks stand to the right in columns of their own.
func TestInodesAndBlocks(t *testing.T) {
	s := newSite(t)
	a, b, c := s.file("a", 40000), s.file("b", 1), s.file("c", 0)
	for i := range 6 {
		s.file(fmt.Sprint(i), 0)
	}
	d := s.link("d", "x")
	if node, _ := s.f.Node(d); node.Ino != 11 {
		t.Fatalf("the link's number is %d", node.Ino)
	}
	l := entries(entry("a", a), entry("b", b), entry("c", c), entry("d", d))
	ino := []string{" 2 a", " 3 b", " 4 c", "11 d"}
	blocks := []string{"40 a", " 4 b", " 0 c", " 0 d"}
	both := []string{" 2 40 a", " 3  4 b", " 4  0 c", "11  0 d"}
	for _, c := range []struct {
		how  How
		want []string
	}{
		{How{Inode: true}, ino}, {How{Blocks: true}, blocks}, {How{Inode: true, Blocks: true}, both},
	} {
		for _, form := range []int{0, 5, -1} {
			c.how.Form = form
			s.isRows(l, c.how, c.want...)
		}
		for form := 1; form <= 2; form++ {
			c.how.Form = form
			s.isRows(l, c.how, strings.Join(c.want, "  "))
		}
		c.how.Form = 3
		s.isRows(l, c.how, strings.Join(c.want, ", "))
		c.how.Form, c.how.Style = 4, 9
		s.isRows(l, c.how,
			c.want[0][:len(c.want[0])-1]+"-rw-r--r-- 1 0 0 40000  a",
			c.want[1][:len(c.want[1])-1]+"-rw-r--r-- 1 0 0     1  b",
			c.want[2][:len(c.want[2])-1]+"-rw-r--r-- 1 0 0     0  c",
			c.want[3][:len(c.want[3])-1]+"lrwxrwxrwx 1 0 0     1  d -> x")
	}
	// A column is as wide as the widest one that is told.
	s.isRows(l[:3], How{Inode: true}, "2 a", "3 b", "4 c")
	s.isRows(l[1:], How{Blocks: true}, "4 b", "0 c", "0 d")
	s.isRows(append(named(99, "no"), l[1:3]...), How{Inode: true}, "3 b", "4 c")
	s.isRows(l, How{Form: 1, Most: 12, Inode: true}, " 2 a   4 c", " 3 b  11 d")
	s.isRows(l, How{Form: 2, Most: 12, Blocks: true}, "40 a   4 b", " 0 c   0 d")
	s.isRows(l, How{Form: 3, Most: 12, Blocks: true}, "40 a,  4 b,", " 0 c,  0 d")
}

// P15.1: each column is as wide as its widest text, wherever that stands.
func TestColumnsOfLongRows(t *testing.T) {
	s := newSite(t)
	a, b, c := s.file("a", 10000), s.file("b", 2), s.file("c", 33)
	s.owner(a, 1, 200)
	s.owner(b, 4000, 5)
	s.owner(c, 60, 7000)
	for i := range 9 {
		s.name(fmt.Sprint("c", i), c)
	}
	ofA := "-rw-r--r--  1    1  200 10000 1970-01-01 a"
	ofB := "-rw-r--r--  1 4000    5     2 1970-01-01 b"
	ofC := "-rw-r--r-- 10   60 7000    33 1970-01-01 c"
	ea, eb, ec := entry("a", a), entry("b", b), entry("c", c)
	s.isRows(entries(ea, eb, ec), long, ofA, ofB, ofC)
	s.isRows(entries(eb, ec, ea), long, ofB, ofC, ofA)
	s.isRows(entries(ec, ea, eb), long, ofC, ofA, ofB)
	s.isRows(entries(eb, ea), long, "-rw-r--r-- 1 4000   5     2 1970-01-01 b", "-rw-r--r-- 1    1 200 10000 1970-01-01 a")
	s.isRows(entries(eb), long, "-rw-r--r-- 1 4000 5 2 1970-01-01 b")
	// The greatest owner, and the least.
	s.owner(a, math.MaxInt, 0)
	s.owner(b, -1, math.MaxInt)
	s.isRows(entries(ea, eb), long,
		"-rw-r--r-- 1 9223372036854775807                   0 10000 1970-01-01 a",
		"-rw-r--r-- 1                   0 9223372036854775807     2 1970-01-01 b")
}

// P15.1: the first letters are layer 7's.
func TestModesOfLongRows(t *testing.T) {
	s := newSite(t)
	f, d := s.file("f", 1), s.dir("d")
	l := s.link("l", "x")
	for _, c := range []struct {
		id, mode int
		want     string
	}{
		{f, 0, "----------"}, {f, 07777, "-rwsrwsrwt"}, {f, 07000, "---S--S--T"}, {f, 0754, "-rwxr-xr--"},
		{d, 01777, "drwxrwxrwt"}, {d, 0, "d---------"}, {l, 0, "l---------"}, {l, 0640, "lrw-r-----"},
	} {
		s.mode(c.id, c.mode)
		got := Rows(s.f, named(c.id, "x"), long)
		if len(got) != 1 || !strings.HasPrefix(got[0], c.want+" ") {
			t.Errorf("of the mode %o: %q, want %s ahead", c.mode, got, c.want)
		}
	}
}

// P15.1: the time is told in the style.
func TestStyles(t *testing.T) {
	s := newSite(t)
	const day, now = 86400, 1_000_000_000
	f := s.file("f", 7)
	check := func(how How, time string) {
		t.Helper()
		how.Form = 4
		s.isRows(named(f, "f"), how, "-rw-r--r-- 1 0 0 7 "+time+" f")
	}
	s.time(f, 0, now-day)
	check(How{Now: now}, "Sep  8 01:46")
	check(How{Now: now, Style: 1}, "2001-09-08 01:46")
	check(How{Now: now, Style: 2}, "2001-09-08 01:46:40 +0000")
	check(How{Now: now, Style: 3}, "")
	check(How{Now: now, Style: 3, Own: "%j"}, "251")
	check(How{Now: now, Style: 3, Own: "a  b%"}, "a  b%")
	check(How{Now: now, Style: 1, Own: "%j"}, "2001-09-08 01:46")
	for _, style := range append([]int{4, 5}, nones...) {
		check(How{Now: now, Style: style, Own: "%j"}, "")
	}
	// What is recent hangs on now.
	for _, c := range []struct {
		now  int64
		want string
	}{
		{now - day, "Sep  8 01:46"}, {now - day - 1, "Sep  8  2001"}, {now - day + 15778475, "Sep  8 01:46"},
		{now - day + 15778476, "Sep  8  2001"}, {math.MinInt64, "Sep  8  2001"}, {math.MaxInt64, "Sep  8  2001"}, {0, "Sep  8  2001"},
	} {
		check(How{Now: c.now}, c.want)
	}
	// Whether a time is recent doesn't hang on where it is told, what is told does.
	check(How{Now: now, Offset: 3600}, "Sep  8 02:46")
	check(How{Now: now, Offset: -2 * 3600}, "Sep  7 23:46")
	check(How{Now: now, Style: 2, Offset: -5400}, "2001-09-08 00:16:40 -0130")
	check(How{Now: now, Style: 2, Offset: 86400}, "2001-09-09 01:46:40 +2400")
	for _, offset := range []int{86401, math.MaxInt} {
		check(How{Now: now, Style: 2, Offset: offset}, "2001-09-09 01:46:40 +2400")
		check(How{Now: now, Style: 2, Offset: -offset}, "2001-09-07 01:46:40 -2400")
	}
	check(How{Now: now, Style: 2, Offset: math.MinInt}, "2001-09-07 01:46:40 -2400")
}

// P15.1: a time isn't put to the right, nor to the left.
func TestTimesOfSeveralWidths(t *testing.T) {
	s := newSite(t)
	a, b := s.file("a", 1), s.file("b", 1)
	s.time(b, 0, 1234)
	s.isRows(entries(entry("a", a), entry("b", b)), How{Form: 4, Style: 3, Own: "%s"},
		"-rw-r--r-- 1 0 0 1 0 a", "-rw-r--r-- 1 0 0 1 1234 b")
}

// P15.1: blocks together, each entry's, in units.
func TestTotal(t *testing.T) {
	s := newSite(t)
	none, one, two := s.file("none", 0), s.file("one", 1), s.file("two", 4097)
	link, dir, most := s.link("link", "x"), s.dir("dir"), s.file("most", math.MaxInt64)
	s.do(vfs.Change{Kind: 1, At: dir, Name: "in", N: 99999})
	s.isTotal(named(none, "x"), 0)
	s.isTotal(named(link, "x"), 0)
	s.isTotal(named(one, "x"), 4)
	s.isTotal(named(two, "x"), 8)
	// Of a directory only its own.
	s.isTotal(named(dir, "x"), 4)
	s.isTotal(entries(entry("a", two), entry("b", one), entry("c", none), entry("d", dir), entry("e", link)), 16)
	s.isTotal(named(most, "x"), 1<<53)
	s.isTotal(named(most, "x", "y", "z"), 3<<53)
	// 511 times 2 to the 54 is what an int64 holds, 512 times is cut to an odd
	// number, half of which is rounded up.
	all := named(most, make([]string, 600)...)
	s.isTotal(all[:511], 511<<53)
	s.isTotal(all[:512], 1<<62)
	s.isTotal(all[:513], 1<<62)
	s.isTotal(all, 1<<62)
	s.isTotal(append(named(one, "x"), all[:511]...), 511<<53+4)
	s.isTotal(append(named(one, "x"), all...), 1<<62)
	s.isTotal(append(all[:600:600], named(link, "x")...), 1<<62)
}

// R5: what is handed in is left as it is, its spare room too, and what is
// answered is new.
func TestListsLeaveWhatIsHandedIn(t *testing.T) {
	s, twin := newSite(t), newSite(t)
	l := ordered(s)
	ordered(twin)
	l = append(l, entry("no", 99))
	room := append(slices.Clone(l), entry("spare", 1), entry("room", 2))
	l = room[:len(l)]
	kept := slices.Clone(room)
	for order := -1; order <= 5; order++ {
		for form := -1; form <= 5; form++ {
			how := How{Form: form, Order: order, Reverse: true, Dirs: true, Inode: true}
			sorted, rows := Sorted(s.f, l, how), Rows(s.f, l, how)
			wantSorted, wantRows := slices.Clone(sorted), slices.Clone(rows)
			Total(s.f, l)
			for i := range sorted {
				sorted[i] = entry("spoilt", 77)
			}
			for i := range rows {
				rows[i] = "spoilt"
			}
			_, _ = append(sorted, entry("spoilt", 77)), append(rows, "spoilt")
			if !slices.Equal(room, kept) {
				t.Fatalf("%+v: the entries are %v, were %v", how, room, kept)
			}
			s.isSorted(l, how, wantSorted...)
			s.isRows(l, how, wantRows...)
		}
	}
	if !s.f.Same(twin.f) {
		t.Error("the file system was changed")
	}
}
