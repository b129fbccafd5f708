package layout

import (
	"math"
	"slices"
	"strings"
	"testing"
)

// noBounds are the widths that bound nothing.
var noBounds = []int{0, -1, -2, -80, math.MinInt32, math.MinInt + 1, math.MinInt}

// greatWidths are those that any names fit which a test has.
var greatWidths = []int{1 << 40, math.MaxInt - 1, math.MaxInt}

// twoWays are the ways to lay names in columns, and whether it is across.
var twoWays = []struct {
	name   string
	lay    func(l []string, most int) []string
	across bool
}{
	{"Down", Down, false},
	{"Across", Across, true},
}

func isRows(t *testing.T, call string, l []string, most int, got, want []string) {
	t.Helper()
	if !slices.Equal(got, want) {
		t.Errorf("%s(%q, %d) = %q, want %q", call, l, most, got, want)
	}
}

func isSize(t *testing.T, l []string, most int, across bool, want complex128) {
	t.Helper()
	if got := Size(l, most, across); got != want {
		t.Errorf("Size(%q, %d, %v) = %v, want %v", l, most, across, got, want)
	}
}

// letters are so many names of one byte.
func letters(n int) []string {
	return strings.Split("abcdefghijklmnopqrstuvwxyz"[:n], "")
}

// P11.1: names, and how they stand in some widths.
var laid = []struct {
	l      []string
	most   int
	down   []string
	across []string
	// How many columns and rows there are, down and across.
	sizeDown, sizeAcross complex128
}{
	// The examples of the chapter, and of the whole.
	{[]string{"a", "b", "c"}, 4, []string{"a  c", "b"}, []string{"a  b", "c"}, 2 + 2i, 2 + 2i},
	{[]string{"a", "bbb", "c", "dd", "e"}, 10,
		[]string{"a    c   e", "bbb  dd"}, []string{"a   bbb  c", "dd  e"}, 3 + 2i, 3 + 2i},

	// Two names: just, one more, one less.
	{[]string{"a", "b"}, 4, []string{"a  b"}, []string{"a  b"}, 2 + 1i, 2 + 1i},
	{[]string{"a", "b"}, 5, []string{"a  b"}, []string{"a  b"}, 2 + 1i, 2 + 1i},
	{[]string{"a", "b"}, 3, []string{"a", "b"}, []string{"a", "b"}, 1 + 2i, 1 + 2i},
	{[]string{"a", "b"}, 1, []string{"a", "b"}, []string{"a", "b"}, 1 + 2i, 1 + 2i},
	{[]string{"ab", "c"}, 5, []string{"ab  c"}, []string{"ab  c"}, 2 + 1i, 2 + 1i},
	{[]string{"ab", "c"}, 4, []string{"ab", "c"}, []string{"ab", "c"}, 1 + 2i, 1 + 2i},

	// Four names: the columns divide them, and don't.
	{letters(4), 10, []string{"a  b  c  d"}, []string{"a  b  c  d"}, 4 + 1i, 4 + 1i},
	{letters(4), 9, []string{"a  c", "b  d"}, []string{"a  b  c", "d"}, 3 + 2i, 3 + 2i},
	{letters(4), 8, []string{"a  c", "b  d"}, []string{"a  b  c", "d"}, 3 + 2i, 3 + 2i},
	{letters(4), 7, []string{"a  c", "b  d"}, []string{"a  b  c", "d"}, 3 + 2i, 3 + 2i},
	{letters(4), 6, []string{"a  c", "b  d"}, []string{"a  b", "c  d"}, 3 + 2i, 2 + 2i},
	{letters(4), 5, []string{"a  c", "b  d"}, []string{"a  b", "c  d"}, 2 + 2i, 2 + 2i},
	{letters(4), 4, []string{"a  c", "b  d"}, []string{"a  b", "c  d"}, 2 + 2i, 2 + 2i},
	{letters(4), 3, []string{"a", "b", "c", "d"}, []string{"a", "b", "c", "d"}, 1 + 4i, 1 + 4i},

	// Down, five in four columns are two rows in three: behind the third stands a gap, the fourth has nothing.
	{letters(5), 13, []string{"a  b  c  d  e"}, []string{"a  b  c  d  e"}, 5 + 1i, 5 + 1i},
	{letters(5), 12, []string{"a  c  e", "b  d"}, []string{"a  b  c  d", "e"}, 4 + 2i, 4 + 2i},
	{letters(5), 9, []string{"a  c  e", "b  d"}, []string{"a  b  c", "d  e"}, 4 + 2i, 3 + 2i},
	{letters(5), 8, []string{"a  c  e", "b  d"}, []string{"a  b  c", "d  e"}, 3 + 2i, 3 + 2i},
	{letters(5), 7, []string{"a  c  e", "b  d"}, []string{"a  b  c", "d  e"}, 3 + 2i, 3 + 2i},
	{letters(5), 6, []string{"a  d", "b  e", "c"}, []string{"a  b", "c  d", "e"}, 2 + 3i, 2 + 3i},

	// Down, ten in nine are five in use, of four without names.
	{letters(10), 28, []string{"a  b  c  d  e  f  g  h  i  j"}, []string{"a  b  c  d  e  f  g  h  i  j"}, 10 + 1i, 10 + 1i},
	{letters(10), 27, []string{"a  c  e  g  i", "b  d  f  h  j"}, []string{"a  b  c  d  e  f  g  h  i", "j"}, 9 + 2i, 9 + 2i},
	{letters(10), 21, []string{"a  c  e  g  i", "b  d  f  h  j"}, []string{"a  b  c  d  e  f  g", "h  i  j"}, 9 + 2i, 7 + 2i},
	{letters(10), 20, []string{"a  c  e  g  i", "b  d  f  h  j"}, []string{"a  b  c  d  e  f  g", "h  i  j"}, 8 + 2i, 7 + 2i},
	{letters(10), 12, []string{"a  d  g  j", "b  e  h", "c  f  i"}, []string{"a  b  c  d", "e  f  g  h", "i  j"}, 4 + 3i, 4 + 3i},

	// The widest stands first, in the middle, last.
	{[]string{"wide", "b", "c"}, 10, []string{"wide  b  c"}, []string{"wide  b  c"}, 3 + 1i, 3 + 1i},
	{[]string{"wide", "b", "c"}, 9, []string{"wide  c", "b"}, []string{"wide  b", "c"}, 2 + 2i, 2 + 2i},
	{[]string{"a", "wide", "c"}, 9, []string{"a     c", "wide"}, []string{"a  wide", "c"}, 2 + 2i, 2 + 2i},
	{[]string{"a", "b", "wide"}, 9, []string{"a  wide", "b"}, []string{"a     b", "wide"}, 2 + 2i, 2 + 2i},
	{[]string{"a", "wide", "c"}, 7, []string{"a     c", "wide"}, []string{"a  wide", "c"}, 2 + 2i, 2 + 2i},
	{[]string{"a", "wide", "c"}, 6, []string{"a", "wide", "c"}, []string{"a", "wide", "c"}, 1 + 3i, 1 + 3i},
	{[]string{"wide", "b", "c"}, 6, []string{"wide", "b", "c"}, []string{"wide", "b", "c"}, 1 + 3i, 1 + 3i},
	{[]string{"a", "b", "wide"}, 6, []string{"a", "b", "wide"}, []string{"a", "b", "wide"}, 1 + 3i, 1 + 3i},

	// A name alone is wider than the width.
	{[]string{"wide", "b", "c"}, 3, []string{"wide", "b", "c"}, []string{"wide", "b", "c"}, 1 + 3i, 1 + 3i},
	{[]string{"a", "wide", "c"}, 1, []string{"a", "wide", "c"}, []string{"a", "wide", "c"}, 1 + 3i, 1 + 3i},

	// Fewer columns may be wider, across: three fit, two wouldn't.
	{[]string{"xxxxx", "a", "b", "xxxxx", "c", "d"}, 11,
		[]string{"xxxxx", "a", "b", "xxxxx", "c", "d"}, []string{"xxxxx  a  b", "xxxxx  c  d"}, 1 + 6i, 3 + 2i},
	{[]string{"xxxxx", "a", "b", "xxxxx", "c", "d"}, 12,
		[]string{"xxxxx  xxxxx", "a      c", "b      d"}, []string{"xxxxx  a  b", "xxxxx  c  d"}, 2 + 3i, 3 + 2i},

	// Empty names.
	{[]string{"", ""}, 2, []string{"  "}, []string{"  "}, 2 + 1i, 2 + 1i},
	{[]string{"", ""}, 1, []string{"", ""}, []string{"", ""}, 1 + 2i, 1 + 2i},
	{[]string{"", "", ""}, 4, []string{"    "}, []string{"    "}, 3 + 1i, 3 + 1i},
	{[]string{"", "", ""}, 3, []string{"  ", ""}, []string{"  ", ""}, 2 + 2i, 2 + 2i},
	{[]string{"a", ""}, 3, []string{"a  "}, []string{"a  "}, 2 + 1i, 2 + 1i},
	{[]string{"", "b"}, 3, []string{"  b"}, []string{"  b"}, 2 + 1i, 2 + 1i},
	{[]string{"a", "", "c", "d"}, 4, []string{"a  c", "   d"}, []string{"a  ", "c  d"}, 2 + 2i, 2 + 2i},
	{[]string{"a", "b", "", ""}, 4, []string{"a  ", "b  "}, []string{"a  b", "   "}, 2 + 2i, 2 + 2i},
	{[]string{"a", "b", "", ""}, 5, []string{"a  ", "b  "}, []string{"a  b", "   "}, 3 + 2i, 2 + 2i},

	// Bytes aren't widths.
	{[]string{"\u3042", "b", "c"}, 8, []string{"\u3042  b  c"}, []string{"\u3042  b  c"}, 3 + 1i, 3 + 1i},
	{[]string{"\u3042", "b", "c"}, 7, []string{"\u3042  c", "b"}, []string{"\u3042  b", "c"}, 2 + 2i, 2 + 2i},
	{[]string{"b", "\u3042", "c"}, 5, []string{"b   c", "\u3042"}, []string{"b  \u3042", "c"}, 2 + 2i, 2 + 2i},
	{[]string{"\xff\xfe", "b", "c"}, 5, []string{"\xff\xfe  c", "b"}, []string{"\xff\xfe  b", "c"}, 2 + 2i, 2 + 2i},
	{[]string{"b", "\xe3\x81", "c"}, 5, []string{"b   c", "\xe3\x81"}, []string{"b  \xe3\x81", "c"}, 2 + 2i, 2 + 2i},
	{[]string{"e\u0301", "b", "c\n"}, 7, []string{"e\u0301  b  c\n"}, []string{"e\u0301  b  c\n"}, 3 + 1i, 3 + 1i},
	{[]string{"e\u0301", "bb", "c\n"}, 5, []string{"e\u0301   c\n", "bb"}, []string{"e\u0301  bb", "c\n"}, 2 + 2i, 2 + 2i},
	{[]string{"\u200b", "\x00"}, 2, []string{"\u200b  \x00"}, []string{"\u200b  \x00"}, 2 + 1i, 2 + 1i},

	// Names with blanks and commas, and names that are one.
	{[]string{" a ", "b ", " "}, 10, []string{" a   b    "}, []string{" a   b    "}, 3 + 1i, 3 + 1i},
	{[]string{" a ", "b ", " "}, 9, []string{" a    ", "b "}, []string{" a   b ", " "}, 2 + 2i, 2 + 2i},
	{[]string{"a,b", ",", "c, "}, 8, []string{"a,b  c, ", ","}, []string{"a,b  ,", "c, "}, 2 + 2i, 2 + 2i},
	{[]string{"a", "a", "a", "a"}, 7, []string{"a  a", "a  a"}, []string{"a  a  a", "a"}, 3 + 2i, 3 + 2i},
}

func TestDownByTable(t *testing.T) {
	for _, c := range laid {
		isRows(t, "Down", c.l, c.most, Down(c.l, c.most), c.down)
		isSize(t, c.l, c.most, false, c.sizeDown)
	}
}

func TestAcrossByTable(t *testing.T) {
	for _, c := range laid {
		isRows(t, "Across", c.l, c.most, Across(c.l, c.most), c.across)
		isSize(t, c.l, c.most, true, c.sizeAcross)
	}
}

// P11.1: of no names none.
func TestNoNames(t *testing.T) {
	for _, l := range [][]string{nil, {}, make([]string, 0, 5)} {
		for _, most := range slices.Concat(noBounds, greatWidths, []int{1, 2, 80}) {
			for _, way := range twoWays {
				isRows(t, way.name, l, most, way.lay(l, most), nil)
				isSize(t, l, most, way.across, 0)
			}
			isRows(t, "Commas", l, most, Commas(l, most), nil)
		}
	}
}

// P11.1, P11.2: one name is a row in any width.
func TestOneName(t *testing.T) {
	for _, name := range []string{"", "a", "a b", ",", " ", "\n", "\xff", "\u3042", "e\u0301", strings.Repeat("x", 255)} {
		l := []string{name}
		for _, most := range slices.Concat(noBounds, greatWidths, []int{1, 2, 3, 254, 255, 256}) {
			for _, way := range twoWays {
				isRows(t, way.name, l, most, way.lay(l, most), l)
				isSize(t, l, most, way.across, 1+1i)
			}
			isRows(t, "Commas", l, most, Commas(l, most), l)
		}
	}
}

// P11.1: where there is no bound, and where all fit, each name has a column.
func TestAllInOneRow(t *testing.T) {
	for n := 1; n <= 26; n++ {
		l := letters(n)
		want := []string{strings.Join(l, "  ")}
		for _, most := range slices.Concat(noBounds, greatWidths, []int{3*n - 2, 3*n - 1}) {
			for _, way := range twoWays {
				isRows(t, way.name, l, most, way.lay(l, most), want)
				isSize(t, l, most, way.across, complex(float64(n), 1))
			}
		}
		for _, way := range twoWays {
			if got := Size(l, max(3*n-3, 1), way.across); n > 1 && real(got) != float64(n-1) {
				t.Errorf("Size(%q, %d, %v) = %v, want %d columns", l, 3*n-3, way.across, got, n-1)
			}
			isRows(t, way.name, l, 1, way.lay(l, 1), l)
			isSize(t, l, 1, way.across, complex(1, float64(n)))
		}
	}
}

// P11.1: a column may be wider than layer 1 pads a text in one go.
func TestVeryWideColumns(t *testing.T) {
	for _, n := range []int{9998, 9999, 10000, 10001, 19999, 20000, 20001, 123456} {
		long := strings.Repeat("x", n)
		l := []string{"a", long, "b", "c"}
		pad := strings.Repeat(" ", n+1)
		down := []string{"a" + pad + "b", long + "  c"}
		if got := Down(l, n+3); !slices.Equal(got, down) {
			t.Errorf("Down in %d: rows of %d and %d bytes", n+3, len(got[0]), len(got[len(got)-1]))
		}
		l = []string{"a", "b", long, "c"}
		across := []string{"a" + pad + "b", long + "  c"}
		if got := Across(l, n+3); !slices.Equal(got, across) {
			t.Errorf("Across in %d: rows of %d and %d bytes", n+3, len(got[0]), len(got[len(got)-1]))
		}
		for _, way := range twoWays {
			isSize(t, letters(4), n, way.across, 4+1i)
		}
	}
}

// P11.2
func TestCommasByTable(t *testing.T) {
	for _, c := range []struct {
		l    []string
		most int
		want []string
	}{
		{[]string{"a", "b"}, 80, []string{"a, b"}},
		{[]string{"a", "b", "c"}, 80, []string{"a, b, c"}},
		// The very last name has no comma, and needs no room for one.
		{[]string{"a", "b"}, 4, []string{"a, b"}},
		{[]string{"a", "b"}, 3, []string{"a,", "b"}},
		{[]string{"a", "b"}, 2, []string{"a,", "b"}},
		{[]string{"a", "b"}, 1, []string{"a,", "b"}},
		{[]string{"a", "b", "c"}, 7, []string{"a, b, c"}},
		{[]string{"a", "b", "c"}, 6, []string{"a, b,", "c"}},
		{[]string{"a", "b", "c"}, 5, []string{"a, b,", "c"}},
		// All others have one, and do.
		{[]string{"a", "b", "c"}, 4, []string{"a,", "b, c"}},
		{[]string{"a", "b", "c"}, 3, []string{"a,", "b,", "c"}},
		{[]string{"a", "b", "c", "d"}, 5, []string{"a, b,", "c, d"}},
		{[]string{"a", "b", "c", "d"}, 4, []string{"a,", "b,", "c, d"}},
		{letters(5), 8, []string{"a, b, c,", "d, e"}},
		{letters(5), 7, []string{"a, b,", "c, d, e"}},
		// A name goes where its own width goes, not where the widest one's does.
		{[]string{"wide", "b", "c"}, 8, []string{"wide, b,", "c"}},
		{[]string{"wide", "b", "c"}, 7, []string{"wide,", "b, c"}},
		{[]string{"a", "wide", "c"}, 8, []string{"a, wide,", "c"}},
		{[]string{"a", "wide", "c"}, 7, []string{"a,", "wide, c"}},
		{[]string{"a", "b", "wide"}, 7, []string{"a, b,", "wide"}},
		{[]string{"a", "b", "wide"}, 10, []string{"a, b, wide"}},
		{[]string{"a", "b", "wide"}, 9, []string{"a, b,", "wide"}},
		// Wider than the width, alone or by its comma.
		{[]string{"a", "wider", "c"}, 4, []string{"a,", "wider,", "c"}},
		{[]string{"wider", "b", "c"}, 5, []string{"wider,", "b, c"}},
		{[]string{"a", "b", "wider"}, 4, []string{"a,", "b,", "wider"}},
		{[]string{"a", "b", "wider"}, 5, []string{"a, b,", "wider"}},
		{[]string{"wider", "wider"}, 1, []string{"wider,", "wider"}},
		// A row of no width is one all the same.
		{[]string{"", ""}, 2, []string{", "}},
		{[]string{"", ""}, 1, []string{",", ""}},
		{[]string{"", "", ""}, 4, []string{", , "}},
		{[]string{"", "", ""}, 3, []string{", ,", ""}},
		{[]string{"", "", ""}, 2, []string{",", ", "}},
		{[]string{"", "", ""}, 1, []string{",", ",", ""}},
		{[]string{"a", ""}, 3, []string{"a, "}},
		{[]string{"a", ""}, 2, []string{"a,", ""}},
		{[]string{"", "b"}, 3, []string{", b"}},
		{[]string{"", "b"}, 2, []string{",", "b"}},
		{[]string{"a", "", "c"}, 6, []string{"a, , c"}},
		{[]string{"a", "", "c"}, 5, []string{"a, ,", "c"}},
		// Bytes aren't widths.
		{[]string{"\u3042", "\u3042", "b"}, 6, []string{"\u3042,", "\u3042, b"}},
		{[]string{"\u3042", "\u3042", "b"}, 7, []string{"\u3042, \u3042,", "b"}},
		{[]string{"\xff\xff", "\xe3\x81", "b"}, 6, []string{"\xff\xff,", "\xe3\x81, b"}},
		{[]string{"\xff\xff", "\xe3\x81", "b"}, 7, []string{"\xff\xff, \xe3\x81,", "b"}},
		{[]string{"e\u0301", "e\u0301", "b\x00"}, 7, []string{"e\u0301, e\u0301, b\x00"}},
		{[]string{"e\u0301", "e\u0301", "b\x00"}, 6, []string{"e\u0301, e\u0301,", "b\x00"}},
		{[]string{"\u200b", "\u0301"}, 2, []string{"\u200b, \u0301"}},
		{[]string{"\u200b", "\u0301"}, 1, []string{"\u200b,", "\u0301"}},
		// Names with blanks and commas, and names that are one.
		{[]string{"a,", " b", ", "}, 11, []string{"a,,  b, , "}},
		{[]string{"a,", " b", ", "}, 7, []string{"a,,  b,", ", "}},
		{[]string{",", ","}, 4, []string{",, ,"}},
		{[]string{",", ","}, 3, []string{",,", ","}},
		{[]string{"a", "a", "a", "a"}, 6, []string{"a, a,", "a, a"}},
	} {
		isRows(t, "Commas", c.l, c.most, Commas(c.l, c.most), c.want)
	}
}

// P11.2
func TestCommasWithoutBound(t *testing.T) {
	for _, l := range [][]string{
		letters(2), letters(26), {"", ""}, {"wide", "", "\u3042", "\xff", ", "}, {strings.Repeat("x", 30000), "b"},
	} {
		for _, most := range slices.Concat(noBounds, greatWidths) {
			isRows(t, "Commas", l, most, Commas(l, most), []string{strings.Join(l, ", ")})
		}
	}
}

// P11.1: of many names the size is told at once, as far down as the columns go.
func TestManyNames(t *testing.T) {
	const many = 100000
	l := slices.Repeat([]string{"name"}, many)
	for _, c := range []struct {
		most         int
		down, across complex128
	}{
		{0, many + 1i, many + 1i},
		{1, 1 + many*1i, 1 + many*1i},
		{9, 1 + many*1i, 1 + many*1i},
		{10, 2 + 50000i, 2 + 50000i},
		{80, 13 + 7693i, 13 + 7693i},
		// Down, three rows are 33334 columns with names, of 4 each, and 16665 without.
		{250000, 49999 + 3i, 41667 + 3i},
		// Down, two rows are 50000 columns with names, and one without.
		{300000, 50001 + 2i, 50000 + 2i},
		{6*many - 3, many - 1 + 2i, many - 1 + 2i},
		{6*many - 2, many + 1i, many + 1i},
		{math.MaxInt, many + 1i, many + 1i},
	} {
		if got := Size(l, c.most, false); got != c.down {
			t.Errorf("down in %d: %v, want %v", c.most, got, c.down)
		}
		if got := Size(l, c.most, true); got != c.across {
			t.Errorf("across in %d: %v, want %v", c.most, got, c.across)
		}
	}
	for _, most := range []int{0, 10, 80, 300000} {
		for _, way := range twoWays {
			got := way.lay(l, most)
			if len(got) != int(imag(Size(l, most, way.across))) {
				t.Errorf("%s in %d: %d rows", way.name, most, len(got))
			}
		}
	}
}

// P11.1, P11.2: the names stay as they were, those in the list's spare room
// too, and an answer doesn't hang on others.
func TestArgumentsStay(t *testing.T) {
	room := []string{"ahead", "a", "wide", "", "\u3042", "\xff", "c", "spare", "room"}
	before := slices.Clone(room)
	calls := map[string]func(l []string, most int) []string{"Down": Down, "Across": Across, "Commas": Commas}
	for name, call := range calls {
		for most := -1; most < 40; most++ {
			l := room[1:7]
			first := call(l, most)
			kept := slices.Clone(first)
			second := call(l, most)
			for i := range second[:cap(second)] {
				second[:cap(second)][i] = "changed"
			}
			isRows(t, name, l, most, first, kept)
			isRows(t, name, l, most, call(l, most), kept)
			Size(l, most, false)
			Size(l, most, true)
			if !slices.Equal(room, before) {
				t.Fatalf("%s(%d): the names have changed: %q", name, most, room)
			}
		}
	}
}

// P11.1: what is answered doesn't change with the names behind it.
func TestAnswersAreNotTheNames(t *testing.T) {
	for _, way := range twoWays {
		l := letters(3)
		got := way.lay(l, 1)
		l[0], l[1], l[2] = "x", "y", "z"
		isRows(t, way.name, l, 1, got, letters(3))
		got[0] = "changed"
		isRows(t, way.name, got, 1, l, []string{"x", "y", "z"})
	}
}
