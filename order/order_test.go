package order

import (
	"cmp"
	"math"
	"slices"
	"strings"
	"testing"
)

// orders are those that the document tells, and some numbers that are none.
var orders = []int{0, 1, 2, 3, 4, 5, 6, -1, -4, 100, math.MinInt, math.MaxInt}

// noOrders ask for no order, so that the name's bytes tell.
var noOrders = []int{0, 5, 6, -1, -4, 100, math.MinInt, math.MaxInt}

func named(name string) Key {
	return Key{Name: name}
}

// bothWays asks for a and b, then for b and a.
func bothWays(t *testing.T, order int, a, b Key, want int) {
	t.Helper()
	if got := Compare(order, a, b); got != want {
		t.Errorf("Compare(%d, %+v, %+v) = %d, want %d", order, a, b, got, want)
	}
	if got := Compare(order, b, a); got != -want {
		t.Errorf("Compare(%d, %+v, %+v) = %d, want %d", order, b, a, got, -want)
	}
}

// P10.1
func TestCompareByNames(t *testing.T) {
	for _, c := range []struct {
		a, b string
		want int
	}{
		{"", "", 0},
		{"a", "a", 0},
		{"", "a", -1},
		{"", "\x00", -1},
		{"a", "b", -1},
		{"a", "aa", -1},
		{"aa", "b", -1},
		{"B", "a", -1},
		{"Z", "_", -1},
		{".a", "a", -1},
		{"e10", "e9", -1},
		{"a b", "ab", -1},
		{"a\n", "a ", -1},
		{"~", "\x7f", -1},
		{"z", "\x80", -1},
		{"\x80", "\xff", -1},
		{"\xc3", "\xc3\xa4", -1},
		{"\xc3\xa4", "\xc3\xff", -1},
		// By characters the first one would be behind: U+FFFD is what stands for a byte that is none.
		{"\xef\xbf\xbc", "\xff", -1},
		{"\xf0\x9f\x98\x80", "\xf5", -1},
		{"\xff", "\xff", 0},
		{"\xfe", "\xff", -1},
		{strings.Repeat("x", 255), strings.Repeat("x", 254) + "y", -1},
		{strings.Repeat("x", 5000), strings.Repeat("x", 5000), 0},
	} {
		for _, order := range noOrders {
			bothWays(t, order, named(c.a), named(c.b), c.want)
			// Nothing but the name tells.
			bothWays(t, order, Key{c.a, 1, 9, true}, Key{c.b, 7, 2, false}, c.want)
			bothWays(t, order, Key{c.a, 7, 2, false}, Key{c.b, 1, 9, true}, c.want)
		}
		// Where all else is alike the names tell by sizes and times as well.
		bothWays(t, 1, Key{c.a, 5, 1, true}, Key{c.b, 5, 2, false}, c.want)
		bothWays(t, 2, Key{c.a, 1, 5, false}, Key{c.b, 2, 5, true}, c.want)
	}
}

// P10.1
func TestCompareBySizesAndTimes(t *testing.T) {
	numbers := []int64{
		math.MaxInt64, math.MaxInt64 - 1, 1 << 62, 1<<53 + 1, 1 << 53, 1 << 32, 1<<32 - 1, 1 << 31, 1<<31 - 1, 2, 1, 0,
		-1, -2, -1 << 31, -1<<31 - 1, -1 << 32, -1 << 62, math.MinInt64 + 1, math.MinInt64,
	}
	for i, great := range numbers {
		for j, less := range numbers {
			for _, names := range [][2]string{{"a", "b"}, {"b", "a"}, {"a", "a"}, {"", "x"}} {
				want := cmp.Compare(i, j)
				if want == 0 {
					want = strings.Compare(names[0], names[1])
				}
				bothWays(t, 1, Key{names[0], great, 3, true}, Key{names[1], less, 4, false}, want)
				bothWays(t, 1, Key{names[0], great, 4, false}, Key{names[1], less, 3, true}, want)
				bothWays(t, 2, Key{names[0], 3, great, true}, Key{names[1], 4, less, false}, want)
				bothWays(t, 2, Key{names[0], 4, great, false}, Key{names[1], 3, less, true}, want)
			}
		}
	}
}

// P10.1
func TestCompareByExtensions(t *testing.T) {
	for _, c := range []struct {
		a, b string
		want int
	}{
		{"", "", 0},
		{"a.c", "a.c", 0},
		{"z", "a.a", -1},
		{"z.a", "a.b", -1},
		{"a.a", "b.a", -1},
		{"z.", "a.a", -1},
		{"z", "a.", -1},
		{"z.b.a", "a.a.b", -1},
		{".z", "a.a", -1},
		{".a", ".z", -1},
		{".z", "a", -1},
		{".", "..", -1},
		{"..", "a.a", -1},
		{"...", "..", 1},
		{"a.gz", "a.gzip", -1},
		{"z.C", "a.c", -1},
		{"a.9", "a.10", 1},
		{"a.\xfe", "a.\xff", -1},
		{"z.\xef\xbf\xbc", "a.\xff", -1},
		{"", "a.a", -1},
		{"", ".a", -1},
	} {
		bothWays(t, 3, named(c.a), named(c.b), c.want)
		bothWays(t, 3, Key{c.a, 1, 9, true}, Key{c.b, 7, 2, false}, c.want)
		bothWays(t, 3, Key{c.a, 7, 2, false}, Key{c.b, 1, 9, true}, c.want)
	}
}

// P10.1
func TestCompareByVersions(t *testing.T) {
	for _, c := range []struct {
		a, b string
		want int
	}{
		{"", "", 0},
		{"", "0", -1},
		{"e9", "e10", -1},
		{"e9", "e9", 0},
		// What is alike by versions is told by its bytes.
		{"e01", "e1", -1},
		{"e001", "e01", -1},
		{"0", "00", -1},
		{"e0", "e00", -1},
		{"e01b", "e1a", 1},
		{"e01a", "e1b", -1},
		{"e1x02", "e01x2", 1},
		{"e01x2", "e1x2", -1},
	} {
		bothWays(t, 4, named(c.a), named(c.b), c.want)
		bothWays(t, 4, Key{c.a, 1, 9, true}, Key{c.b, 7, 2, false}, c.want)
		bothWays(t, 4, Key{c.a, 7, 2, false}, Key{c.b, 1, 9, true}, c.want)
	}
}

// P10.1
func TestExtByTable(t *testing.T) {
	long := strings.Repeat("x", 100000)
	for _, c := range []struct{ name, want string }{
		{"", ""},
		{"a", ""},
		{"abc", ""},
		{"a.b", ".b"},
		{"a.b.c", ".c"},
		{"a..b", ".b"},
		{"a.", "."},
		{"a.b.", "."},
		{"a..", "."},
		{".", ""},
		{"..", "."},
		{"...", "."},
		{".a", ""},
		{".a.b", ".b"},
		{".a.", "."},
		{"..a", ".a"},
		{" .a", ".a"},
		{"a b.c d", ".c d"},
		{"a/b.c/d", ".c/d"},
		{"\x00.\x00", ".\x00"},
		{"\xff.\xfe", ".\xfe"},
		{".\xff", ""},
		{"ä.ö", ".ö"},
		{"ä。ö", ""},
		{long, ""},
		{long + "." + long, "." + long},
		{"." + long, ""},
	} {
		if got := Ext(c.name); got != c.want {
			t.Errorf("Ext(%.40q) = %.40q, want %.40q", c.name, got, c.want)
		}
	}
}

// P10.1
func TestVersionByTable(t *testing.T) {
	long := strings.Repeat("7", 100000)
	for _, c := range []struct {
		a, b string
		want int
	}{
		{"", "", 0},
		{"a", "a", 0},
		{"", "a", -1},
		{"", "0", -1},
		{"", "\x00", -1},
		{"a", "b", -1},
		{"a", "aa", -1},
		{"aa", "ab", -1},
		{"ab", "b", -1},
		{"B", "a", -1},
		{"\xfe", "\xff", -1},
		{"z", "\x80", -1},
		{"\xef\xbf\xbc", "\xff", -1},
		{"a\xff", "a\xff", 0},
		// Numbers are held against numbers.
		{"e9", "e10", -1},
		{"9", "10", -1},
		{"10", "10", 0},
		{"19", "20", -1},
		{"11", "12", -1},
		{"1", "2", -1},
		{"0", "1", -1},
		{"99", "100", -1},
		{"2.9", "2.10", -1},
		{"1.2.3", "1.2.3", 0},
		{"1.2.3", "1.10", -1},
		{"1.2", "1.2.3", -1},
		{"a1b9", "a1b10", -1},
		{"a2b1", "a10b0", -1},
		// More digits than an int64 holds.
		{"9223372036854775807", "9223372036854775808", -1},
		{"18446744073709551615", "18446744073709551616", -1},
		{"18446744073709551617", "1", 1},
		{"99999999999999999999", "100000000000000000000", -1},
		{"v340282366920938463463374607431768211456x", "v340282366920938463463374607431768211457x", -1},
		{long, long, 0},
		{long, long + "0", -1},
		{"6" + long, "7" + long, -1},
		{"00" + long, long, 0},
		// 0s ahead count nothing.
		{"007", "7", 0},
		{"0", "000", 0},
		{"00", "1", -1},
		{"008", "9", -1},
		{"09", "10", -1},
		{"010", "9", 1},
		{"a00b", "a0b", 0},
		{"a007b", "a7c", -1},
		{"a7b", "a007a", 1},
		{"a07", "a7b", -1},
		{"a01b2", "a1b02", 0},
		{"10", "1", 1},
		{"100", "10", 1},
		{"000000000000000000000000000001", "1", 0},
		// A number is ahead of any byte.
		{"1", "a", -1},
		{"9", "!", -1},
		{"9", "\x00", -1},
		{"9", "/", -1},
		{"9", ":", -1},
		{"9", "\xff", -1},
		{"a9", "a.", -1},
		{"a1", "a ", -1},
		{"1a", "1 ", 1},
		{"12", "1a", 1},
		{"1a", "11", -1},
		{"1-", "10", -1},
		// Digits of other alphabets are bytes.
		{"٩", "١٠", 1},
		{"2", "²", -1},
		// One name is over before the other.
		{"a", "a1", -1},
		{"a", "a0", -1},
		{"a", "a\x00", -1},
		{"a1", "a1 ", -1},
		{"a01", "a1b", -1},
		{"1", "1.", -1},
		{".", "..", -1},
	} {
		if got := Version(c.a, c.b); got != c.want {
			t.Errorf("Version(%.40q, %.40q) = %d, want %d", c.a, c.b, got, c.want)
		}
		if got := Version(c.b, c.a); got != -c.want {
			t.Errorf("Version(%.40q, %.40q) = %d, want %d", c.b, c.a, got, -c.want)
		}
		bothWays(t, 4, named(c.a), named(c.b), cmp.Or(c.want, strings.Compare(c.a, c.b)))
	}
}

// The keys that TestSortByTable sorts: their places are 0 to 7.
var someKeys = []Key{
	{Name: "b.c", Size: 5, Time: 30},
	{Name: "e10", Size: 7, Time: 10, Dir: true},
	{Name: "a.d", Size: 5, Time: -1},
	{Name: "e9", Size: -2, Time: 10},
	{Name: ".z", Size: 0, Time: 20, Dir: true},
	{Name: "", Size: 7, Time: 0},
	{Name: "e09", Size: 9, Time: 30, Dir: true},
	{Name: "c.c", Size: 0, Time: 99},
}

// P10.2
func TestSortByTable(t *testing.T) {
	for _, c := range []struct {
		order         int
		reverse, dirs bool
		want          []int
	}{
		{0, false, false, []int{5, 4, 2, 0, 7, 6, 1, 3}},
		{0, true, false, []int{3, 1, 6, 7, 0, 2, 4, 5}},
		{0, false, true, []int{4, 6, 1, 5, 2, 0, 7, 3}},
		{0, true, true, []int{1, 6, 4, 3, 7, 0, 2, 5}},
		{1, false, false, []int{6, 5, 1, 2, 0, 4, 7, 3}},
		{1, true, false, []int{3, 7, 4, 0, 2, 1, 5, 6}},
		{1, false, true, []int{6, 1, 4, 5, 2, 0, 7, 3}},
		{1, true, true, []int{4, 1, 6, 3, 7, 0, 2, 5}},
		{2, false, false, []int{7, 0, 6, 4, 1, 3, 5, 2}},
		{2, true, false, []int{2, 5, 3, 1, 4, 6, 0, 7}},
		{2, false, true, []int{6, 4, 1, 7, 0, 3, 5, 2}},
		{2, true, true, []int{1, 4, 6, 2, 5, 3, 0, 7}},
		{3, false, false, []int{5, 4, 6, 1, 3, 0, 7, 2}},
		{3, true, false, []int{2, 7, 0, 3, 1, 6, 4, 5}},
		{3, false, true, []int{4, 6, 1, 5, 3, 0, 7, 2}},
		{3, true, true, []int{1, 6, 4, 2, 7, 0, 3, 5}},
		{4, false, false, []int{5, 4, 2, 0, 7, 6, 3, 1}},
		{4, true, false, []int{1, 3, 6, 7, 0, 2, 4, 5}},
		{4, false, true, []int{4, 6, 1, 5, 2, 0, 7, 3}},
		{4, true, true, []int{1, 6, 4, 3, 7, 0, 2, 5}},
		{5, false, false, []int{5, 4, 2, 0, 7, 6, 1, 3}},
		{-1, true, true, []int{1, 6, 4, 3, 7, 0, 2, 5}},
		{math.MinInt, true, false, []int{3, 1, 6, 7, 0, 2, 4, 5}},
		{math.MaxInt, false, true, []int{4, 6, 1, 5, 2, 0, 7, 3}},
	} {
		if got := Sort(c.order, c.reverse, c.dirs, someKeys); !slices.Equal(got, c.want) {
			t.Errorf("Sort(%d, reverse %v, dirs %v) = %v, want %v", c.order, c.reverse, c.dirs, got, c.want)
		}
	}
}

// inAllWays calls try with each order, forwards and reversed, with
// directories ahead and without.
func inAllWays(try func(order int, reverse, dirs bool)) {
	for _, order := range orders {
		for _, reverse := range []bool{false, true} {
			for _, dirs := range []bool{false, true} {
				try(order, reverse, dirs)
			}
		}
	}
}

// P10.2
func TestSortOfFewKeys(t *testing.T) {
	inAllWays(func(order int, reverse, dirs bool) {
		for _, l := range [][]Key{nil, {}, make([]Key, 0, 9)} {
			if got := Sort(order, reverse, dirs, l); len(got) != 0 {
				t.Errorf("Sort(%d, %v, %v, no keys) = %v", order, reverse, dirs, got)
			}
		}
		for _, k := range []Key{{}, {"a", 1, 2, true}, {"\xff", math.MinInt64, math.MaxInt64, false}} {
			if got := Sort(order, reverse, dirs, []Key{k}); !slices.Equal(got, []int{0}) {
				t.Errorf("Sort(%d, %v, %v, %+v) = %v", order, reverse, dirs, k, got)
			}
		}
		want := []int{0, 1}
		if reverse {
			want = []int{1, 0}
		}
		pair := []Key{{Name: "a"}, {Name: "b"}}
		if got := Sort(order, reverse, dirs, pair); !slices.Equal(got, want) {
			t.Errorf("Sort(%d, %v, %v, %+v) = %v, want %v", order, reverse, dirs, pair, got, want)
		}
	})
}

// P10.2: directories alone, and none, are ordered as if dirs weren't asked for.
func TestSortOfDirectoriesAlone(t *testing.T) {
	inAllWays(func(order int, reverse, dirs bool) {
		for _, dir := range []bool{false, true} {
			l := slices.Clone(someKeys)
			for i := range l {
				l[i].Dir = dir
			}
			got, want := Sort(order, reverse, dirs, l), Sort(order, reverse, false, someKeys)
			if !slices.Equal(got, want) {
				t.Errorf("Sort(%d, %v, %v, all Dir %v) = %v, want %v", order, reverse, dirs, dir, got, want)
			}
		}
	})
}

// P10.2: what is alike stays as it stood, reversed, too.
func TestSortOfWhatIsAlike(t *testing.T) {
	inAllWays(func(order int, reverse, dirs bool) {
		for n := range 40 {
			l, want := make([]Key, n), make([]int, n)
			for i := range l {
				l[i], want[i] = Key{Name: "a7", Size: 5, Time: 6}, i
			}
			if got := Sort(order, reverse, dirs, l); !slices.Equal(got, want) {
				t.Fatalf("Sort(%d, %v, %v, %d alike) = %v", order, reverse, dirs, n, got)
			}
		}
	})
	// What isn't asked for doesn't part them.
	l := []Key{{"a", 1, 9, false}, {"a", 2, 8, true}, {"a", 3, 7, false}, {"a", 1, 9, true}}
	for _, order := range []int{0, 3, 4, 5, -1} {
		for _, reverse := range []bool{false, true} {
			if got := Sort(order, reverse, false, l); !slices.Equal(got, []int{0, 1, 2, 3}) {
				t.Errorf("Sort(%d, %v, without dirs) = %v", order, reverse, got)
			}
			if got := Sort(order, reverse, true, l); !slices.Equal(got, []int{1, 3, 0, 2}) {
				t.Errorf("Sort(%d, %v, dirs) = %v", order, reverse, got)
			}
		}
	}
	// What is alike in part of the list alone.
	l = []Key{{Name: "b"}, {Name: "a"}, {Name: "b", Size: 1}, {Name: "c"}, {Name: "a", Time: 1}, {Name: "b", Dir: true}}
	if got := Sort(0, false, false, l); !slices.Equal(got, []int{1, 4, 0, 2, 5, 3}) {
		t.Errorf("forwards: %v", got)
	}
	if got := Sort(0, true, false, l); !slices.Equal(got, []int{3, 0, 2, 5, 1, 4}) {
		t.Errorf("reversed: %v", got)
	}
	if got := Sort(0, true, true, l); !slices.Equal(got, []int{5, 3, 0, 2, 1, 4}) {
		t.Errorf("reversed, with dirs: %v", got)
	}
}

// P10.2: the keys stay as they were, those in the list's spare room too, and
// an answer doesn't hang on others.
func TestSortLeavesItsArgument(t *testing.T) {
	room := append(slices.Clone(someKeys), Key{"spare", 1, 2, true}, Key{"room", 3, 4, false})
	before := slices.Clone(room)
	inAllWays(func(order int, reverse, dirs bool) {
		l := room[1:7]
		first := Sort(order, reverse, dirs, l)
		kept := slices.Clone(first)
		second := Sort(order, reverse, dirs, l)
		for i := range second[:cap(second)] {
			second[:cap(second)][i] = -1
		}
		if !slices.Equal(first, kept) {
			t.Errorf("Sort(%d, %v, %v): an answer has changed with another one", order, reverse, dirs)
		}
		if third := Sort(order, reverse, dirs, l); !slices.Equal(third, kept) {
			t.Errorf("Sort(%d, %v, %v) = %v, want %v as before", order, reverse, dirs, third, kept)
		}
		if !slices.Equal(room, before) {
			t.Fatalf("Sort(%d, %v, %v) has changed its keys: %v", order, reverse, dirs, room)
		}
	})
}
