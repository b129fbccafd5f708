package width

import (
	"math"
	"slices"
	"strings"
	"testing"
	"unicode/utf8"
)

// edge is a row of the chapter, in the chapter's own order, with the widths
// of the characters ahead of it and behind it.
type edge struct {
	ahead       int
	first, last rune
	width       int
	behind      int
}

func edges() []edge {
	return []edge{
		{1, 0x0000, 0x001F, 0, 1}, {1, 0x007F, 0x009F, 0, 1}, {1, 0x0300, 0x036F, 0, 1},
		{1, 0x200B, 0x200F, 0, 1}, {1, 0xFE00, 0xFE0F, 0, 1},
		{1, 0x1100, 0x115F, 2, 1}, {1, 0x2E80, 0x303E, 2, 1}, {1, 0x3041, 0x33FF, 2, 2},
		{2, 0x3400, 0x4DBF, 2, 1}, {1, 0x4E00, 0xA4CF, 2, 1}, {1, 0xAC00, 0xD7A3, 2, 1},
		{1, 0xF900, 0xFAFF, 2, 1}, {1, 0xFE30, 0xFE6F, 2, 1}, {1, 0xFF00, 0xFF60, 2, 1},
		{1, 0xFFE0, 0xFFE6, 2, 1}, {1, 0x1F300, 0x1F64F, 2, 1}, {1, 0x20000, 0x3FFFD, 2, 1},
	}
}

// pieces are characters of each width and each length in bytes, bad bytes,
// and beginnings and ends of characters, which may join to whole ones.
func pieces() []string {
	return []string{
		"", "a", "~", "\x00", "\x7f", "\u00e9", "\u0301", "\u009f", "\u200b", "\ufe0f", "\ufffd",
		"\u3042", "\u1100", "\uac00", "\uff21", "\U0001f600", "\U00020000", "\U00010000", "\U0010ffff",
		"\x80", "\xbf", "\xc0", "\xff", "\xcc", "\x81", "\xe3\x81", "\x82", "\xf0\x9f", "\x98\x80", "\xed\xa0\x80",
	}
}

// texts are all pieces, in threes.
func texts() []string {
	var l []string
	for _, a := range pieces() {
		for _, b := range pieces() {
			for _, c := range pieces() {
				l = append(l, a+b+c)
			}
		}
	}
	return l
}

// bounds are the places between the characters of s, with both its ends.
func bounds(s string) []int {
	l := []int{0}
	for i := 0; i < len(s); {
		_, n := utf8.DecodeRuneInString(s[i:])
		i += n
		l = append(l, i)
	}
	return l
}

// P2.1

func TestRuneAtTheEndsOfRows(t *testing.T) {
	for _, e := range edges() {
		for _, c := range []struct {
			r    rune
			want int
		}{
			{e.first - 1, e.ahead}, {e.first, e.width}, {e.first + 1, e.width},
			{e.last - 1, e.width}, {e.last, e.width}, {e.last + 1, e.behind},
		} {
			if got := Rune(c.r); got != c.want {
				t.Errorf("Rune(%#x): %d, want %d", c.r, got, c.want)
			}
		}
	}
}

func TestRuneOfAllCharacters(t *testing.T) {
	for r := rune(-1000); r < utf8.MaxRune+1000; r++ {
		want := 1
		for _, e := range edges() {
			if e.first <= r && r <= e.last {
				want = e.width
			}
		}
		if got := Rune(r); got != want {
			t.Fatalf("Rune(%#x): %d, want %d", r, got, want)
		}
	}
}

func TestHowManyCharactersAreOfEachWidth(t *testing.T) {
	var count [3]int
	for r := rune(0); r <= utf8.MaxRune; r++ {
		count[Rune(r)]++
	}
	if want := [3]int{198, 0x110000 - 198 - 174088, 174088}; count != want {
		t.Errorf("%v, want %v", count, want)
	}
}

func TestRuneOfOrdinaryCharacters(t *testing.T) {
	for _, c := range []struct {
		r    rune
		want int
	}{
		{' ', 1}, {'a', 1}, {'~', 1}, {0xA0, 1}, {0xE9, 1}, {0x3B1, 1}, {0x20AC, 1}, {0xFFFD, 1}, {0x10000, 1}, {0x10FFFF, 1},
		{'\n', 0}, {'\t', 0}, {0x1B, 0}, {0x301, 0}, {0x200D, 0}, {0xFE0F, 0},
		{0x3042, 2}, {0x6F22, 2}, {0xD55C, 2}, {0x3000, 2}, {0xFF21, 2}, {0x1F600, 2}, {0x2FFFF, 2},
		// Between two rows that nearly touch.
		{0x303F, 1}, {0x3040, 1}, {0x4DC0, 1}, {0x4DFF, 1}, {0xFE10, 1}, {0xFE2F, 1}, {0xFF61, 1}, {0xFFDF, 1},
	} {
		if got := Rune(c.r); got != c.want {
			t.Errorf("Rune(%#x): %d, want %d", c.r, got, c.want)
		}
	}
}

func TestRuneOfNoCharacter(t *testing.T) {
	for _, r := range []rune{
		-1, -2, -0x1F, -0x3042, math.MinInt32, math.MinInt32 + 1,
		0xD7A4, 0xD800, 0xDBFF, 0xDC00, 0xDFFF, 0x110000, 0x110001, 0x13042, 0x120000, math.MaxInt32 - 1, math.MaxInt32,
	} {
		if got := Rune(r); got != 1 {
			t.Errorf("Rune(%d): %d, want 1", r, got)
		}
	}
}

func TestOf(t *testing.T) {
	for _, c := range []struct {
		s    string
		want int
	}{
		{"", 0}, {"a", 1}, {"abc", 3}, {" ", 1}, {"a\u3042", 3}, {"\u3042a", 3}, {"\u3042\u3042", 4},
		{"\x00", 0}, {"\n", 0}, {"a\tb", 2}, {"\x7f", 0}, {"e\u0301", 1}, {"\u00e9", 1}, {"\u0301", 0}, {"\u200b\u200f", 0},
		{"\U0001f600", 2}, {"\U0001f600\ufe0f", 2}, {"\U00020000", 2}, {"\U0010ffff", 1}, {"\ufffd", 1},
		// Bytes that begin no character.
		{"\x80", 1}, {"\xbf\xbf", 2}, {"\xff", 1}, {"\xfe\xff", 2}, {"a\xffb", 3}, {"\x80\x00", 1},
		{"\xc0\x80", 2}, {"\xc1\xbf", 2}, {"\xe0\x80\x80", 3}, {"\xed\xa0\x80", 3}, {"\xed\xbf\xbf", 3},
		{"\xf0\x80\x80\x80", 4}, {"\xf4\x90\x80\x80", 4}, {"\xf5\x80\x80\x80", 4},
		// Characters that are cut off, though they were of width 0 or 2.
		{"\xcc", 1}, {"\xcca", 2}, {"\xe3", 1}, {"\xe3\x81", 2}, {"\xe3\x81a", 3}, {"\xe3\x81\u3042", 4},
		{"\xf0\x9f\x98", 3}, {"\xf0\x9f", 2}, {"\xe2\x80", 2}, {"\x81\x82", 2}, {"\u3042\x82", 3},
	} {
		if got := Of(c.s); got != c.want {
			t.Errorf("Of(%q): %d, want %d", c.s, got, c.want)
		}
	}
}

func TestOfEachByteByItself(t *testing.T) {
	for b := range 256 {
		want := 1
		if b < 0x20 || b == 0x7F {
			want = 0
		}
		if got := Of(string([]byte{byte(b)})); got != want {
			t.Errorf("Of of the byte %#x: %d, want %d", b, got, want)
		}
	}
}

func TestOfLongText(t *testing.T) {
	if got := Of(strings.Repeat("a\u3042\xff\u0301", 100000)); got != 400000 {
		t.Errorf("%d, want 400000", got)
	}
}

func TestMost(t *testing.T) {
	for _, c := range []struct {
		l    []string
		want int
	}{
		{nil, 0}, {[]string{}, 0}, {[]string{""}, 0}, {[]string{"", ""}, 0}, {[]string{"\n", "\u0301"}, 0},
		{[]string{"a"}, 1}, {[]string{"abc", "a", "ab"}, 3}, {[]string{"a", "abc", "ab"}, 3}, {[]string{"a", "ab", "abc"}, 3},
		{[]string{"ab", "ab"}, 2}, {[]string{"", "a", ""}, 1},
		// The widest is neither that of most bytes nor that of most characters.
		{[]string{"\u3042\u3042", "abc"}, 4}, {[]string{"e\u0301\u0301\u0301", "ab"}, 2}, {[]string{"\xff\xff\xff", "\u3042"}, 3},
	} {
		if got := Most(c.l...); got != c.want {
			t.Errorf("Most(%q): %d, want %d", c.l, got, c.want)
		}
	}
}

func TestMostLeavesItsList(t *testing.T) {
	all := []string{"c", "\u3042", "a", "spare", "room"}
	Most(all[:3]...)
	if !slices.Equal(all, []string{"c", "\u3042", "a", "spare", "room"}) {
		t.Errorf("%q", all)
	}
}

func TestCut(t *testing.T) {
	for _, c := range []struct {
		s    string
		most int
		want string
	}{
		{"abc", 2, "ab"}, {"abc", 1, "a"}, {"abc", 0, ""}, {"abc", 3, "abc"}, {"abc", 4, "abc"}, {"abc", math.MaxInt, "abc"},
		{"abc", -1, ""}, {"abc", math.MinInt, ""}, {"", 0, ""}, {"", 5, ""}, {"", -1, ""}, {"", math.MinInt, ""},
		// A wide character that fits only by half is left out, with all behind it.
		{"\u3042", 1, ""}, {"\u3042", 2, "\u3042"}, {"\u3042a", 1, ""}, {"a\u3042b", 2, "a"}, {"a\u3042b", 3, "a\u3042"},
		{"\u3042\u3042", 3, "\u3042"}, {"\u3042\u3042", 4, "\u3042\u3042"},
		// Characters of width 0 belong to the beginning as long as it is not too wide.
		{"e\u0301x", 1, "e\u0301"}, {"e\u0301", 1, "e\u0301"}, {"e\u0301", 0, ""}, {"\u0301e", 0, "\u0301"}, {"\n\x00a", 0, "\n\x00"},
		{"\u200b", 0, "\u200b"}, {"\u200b", -1, ""}, {"\x00", -1, ""}, {"\n", math.MinInt, ""}, {"ab\n\n", 2, "ab\n\n"},
		// Bad bytes are cut one by one.
		{"\xff\xff", 1, "\xff"}, {"\xe3\x81", 1, "\xe3"}, {"\xe3\x81", 2, "\xe3\x81"}, {"a\xe3\x81\u3042", 4, "a\xe3\x81"},
		{"\xf0\x9f\x98a", 3, "\xf0\x9f\x98"}, {"\x80a", 0, ""}, {"\u0301\x80", 0, "\u0301"}, {"\xcc\u0301", 1, "\xcc\u0301"},
	} {
		if got := Cut(c.s, c.most); got != c.want {
			t.Errorf("Cut(%q, %d): %q, want %q", c.s, c.most, got, c.want)
		}
	}
}

// longest is what Cut must tell, sought from the whole text downwards.
func longest(s string, most int) string {
	for _, i := range slices.Backward(bounds(s)) {
		if Of(s[:i]) <= most {
			return s[:i]
		}
	}
	return ""
}

func TestCutIsTheLongestBeginning(t *testing.T) {
	for _, s := range texts() {
		for most := -2; most <= Of(s)+2; most++ {
			if got, want := Cut(s, most), longest(s, most); got != want {
				t.Fatalf("Cut(%q, %d): %q, want %q", s, most, got, want)
			}
		}
	}
}

// P2.2

func TestWidthIsTheSumOfTheParts(t *testing.T) {
	for _, s := range texts() {
		whole := Of(s)
		l := bounds(s)
		sum := 0
		for k, i := range l {
			if Of(s[:i])+Of(s[i:]) != whole {
				t.Fatalf("Of(%q) is %d, but %d and %d when cut at %d", s, whole, Of(s[:i]), Of(s[i:]), i)
			}
			if k > 0 {
				sum += Of(s[l[k-1]:i])
			}
		}
		if sum != whole {
			t.Fatalf("Of(%q) is %d, but its characters' sum %d", s, whole, sum)
		}
	}
}

func TestWidthIsTheSumOfTheRunes(t *testing.T) {
	for _, s := range texts() {
		sum := 0
		for i := 0; i < len(s); {
			r, n := utf8.DecodeRuneInString(s[i:])
			if r == utf8.RuneError && n == 1 {
				sum++
			} else {
				sum += Rune(r)
			}
			i += n
		}
		if got := Of(s); got != sum {
			t.Fatalf("Of(%q): %d, want %d", s, got, sum)
		}
	}
}

func TestCutAndItsRestAreTheWhole(t *testing.T) {
	for _, s := range texts() {
		whole := Of(s)
		for most := 0; most <= whole; most++ {
			begin := Cut(s, most)
			rest, ok := strings.CutPrefix(s, begin)
			if !ok || Of(begin) > most || Of(begin)+Of(rest) != whole {
				t.Fatalf("Cut(%q, %d): %q", s, most, begin)
			}
		}
	}
}

func TestPartsWithinACharacterAreBad(t *testing.T) {
	for _, c := range []struct {
		ahead, behind string
		parts, whole  int
	}{
		{"\xe3", "\x81\x82", 3, 2}, {"\xe3\x81", "\x82", 3, 2}, {"\xcc", "\x81", 2, 0}, {"\xc3", "\xa9", 2, 1}, {"\xf0\x9f", "\x98\x80", 4, 2},
	} {
		if got := Of(c.ahead) + Of(c.behind); got != c.parts {
			t.Errorf("%q and %q: %d, want %d", c.ahead, c.behind, got, c.parts)
		}
		if got := Of(c.ahead + c.behind); got != c.whole {
			t.Errorf("%q: %d, want %d", c.ahead+c.behind, got, c.whole)
		}
	}
}
