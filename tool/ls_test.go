package tool

import (
	"fmt"
	"math"
	"slices"
	"strings"
	"testing"

	"domesday/list"
	"domesday/roam"
)

// P17.1, DOC.md: the first example of the whole.
func TestFirstExampleOfTheWhole(t *testing.T) {
	s := newSite(t).wide(10)
	s.files(0, "a", "bbb", "c", "dd", "e")
	s.tells("ls -C", "a    c   e", "bbb  dd")
}

// P17.1: the example of README.md.
func TestExampleOfReadme(t *testing.T) {
	s := newSite(t).wide(80)
	s.file(s.dir(0, "d"), "f", 5)
	s.tells("ls -l d", "total 4", "-rw-r--r-- 1 0 0 5 Jan  1 00:00 f")
}

// five is a site with five names in a directory d.
func five(t *testing.T) site {
	s := newSite(t)
	s.files(s.dir(0, "d"), "a", "bbb", "c", "dd", "e")
	return s
}

// P17.1: each form's letter, and the last one of several.
func TestForms(t *testing.T) {
	s := five(t).wide(10)
	long := []string{
		"total 0", "-rw-r--r-- 1 0 0 0 Jan  1 00:00 a", "-rw-r--r-- 1 0 0 0 Jan  1 00:00 bbb", "-rw-r--r-- 1 0 0 0 Jan  1 00:00 c",
		"-rw-r--r-- 1 0 0 0 Jan  1 00:00 dd", "-rw-r--r-- 1 0 0 0 Jan  1 00:00 e",
	}
	forms := map[string][]string{
		"1": {"a", "bbb", "c", "dd", "e"}, "C": {"a    c   e", "bbb  dd"}, "x": {"a   bbb  c", "dd  e"}, "m": {"a, bbb, c,", "dd, e"}, "l": long,
	}
	s.tells("ls d", forms["1"]...)
	for one, want := range forms {
		s.tells("ls -"+one+" d", want...)
		s.tells("ls d -"+one+one, want...)
		for other := range forms {
			s.tells("ls -"+other+one+" d", want...)
			s.tells("ls -"+other+" d -"+one, want...)
			for third := range forms {
				s.tells("ls -"+third+other+" d -"+one, want...)
			}
		}
	}
}

// P17.1: w's width, else the env's; none of 0, and below 0.
func TestWidths(t *testing.T) {
	s := five(t)
	wide := map[int][]string{
		1: {"a", "bbb", "c", "dd", "e"}, 6: {"a", "bbb", "c", "dd", "e"}, 7: {"a    dd", "bbb  e", "c"}, 9: {"a    dd", "bbb  e", "c"},
		10: {"a    c   e", "bbb  dd"}, 15: {"a    c   e", "bbb  dd"}, 16: {"a  bbb  c  dd  e"}, 65535: {"a  bbb  c  dd  e"}, 0: {"a  bbb  c  dd  e"},
	}
	for width, want := range wide {
		s.wide(width).tells("ls -C d", want...)
		for _, other := range []int{0, 1, 9, 10, 16, -1, math.MinInt, math.MaxInt} {
			at := s.wide(other)
			at.tells(fmt.Sprintf("ls -C -w %d d", width), want...)
			at.tells(fmt.Sprintf("ls --width=%d -C d", width), want...)
			at.tells(fmt.Sprintf("ls -w%d -C d -w %d", other&15, width), want...)
		}
	}
	for _, width := range []int{-1, -2, -10, math.MinInt, math.MaxInt, math.MaxInt32, 65536} {
		s.wide(width).tells("ls -C d", wide[0]...)
		s.wide(width).tells("ls -x d", wide[0]...)
		s.wide(width).tells("ls -m d", "a, bbb, c, dd, e")
	}
	s.wide(5).tells("ls -m d", "a,", "bbb,", "c,", "dd, e")
	s.wide(100).tells("ls -mw5 d", "a,", "bbb,", "c,", "dd, e")
	s.wide(9).tells("ls -x d", "a  bbb", "c  dd", "e")
	// The width is that of each list, also of the operands'.
	s.wide(10).tells("ls -C -d d/a d d/bbb", "d    d/bbb", "d/a")
	s.wide(9).tells("ls -C -d d/a d d/bbb", "d", "d/a", "d/bbb")
	s.wide(9).tells("ls -C d/a d d/bbb -w 11", "d/a  d/bbb", "", "d:", "a    c   e", "bbb  dd")
}

// P17.1: each order's letter, the last one of several, and each in reverse.
func TestOrders(t *testing.T) {
	s := newSite(t)
	for i, f := range []struct {
		name string
		size int64
	}{{"f10.b", 30}, {"f9.c", 20}, {"f1.d", 40}, {"f10", 10}, {"f9.a", 20}} {
		s.time(s.file(0, f.name, f.size), 1, []int64{5, 9, 9, -7, 6}[i])
	}
	orders := map[string]string{
		"":  "f1.d f10 f10.b f9.a f9.c",
		"S": "f1.d f10.b f9.a f9.c f10",
		"t": "f1.d f9.c f9.a f10.b f10",
		"X": "f10 f9.a f10.b f9.c f1.d",
		"v": "f1.d f9.a f9.c f10 f10.b",
		"U": "f1.d f10 f10.b f9.a f9.c",
	}
	for one, want := range orders {
		names := strings.Fields(want)
		back := slices.Clone(names)
		slices.Reverse(back)
		if one == "U" {
			back = names
		}
		s.tells("ls -1"+one, names...)
		s.tells("ls -1"+one+" -r", back...)
		s.tells("ls --reverse -rr -1"+one, back...)
		for other := range orders {
			if one != "" {
				s.tells("ls -1"+other+one, names...)
				s.tells("ls -1"+other+" -1"+one+one, names...)
				s.tells("ls -1"+other+one+"r", back...)
			}
		}
	}
	// Operands that are no directories stand in that order, too.
	s.tells("ls f9.c f10 f9.a f1.d f10.b", strings.Fields(orders[""])...)
	s.tells("ls -S f9.c f10 f9.a f1.d f10.b", strings.Fields(orders["S"])...)
	s.tells("ls -U f9.c f10 f9.a f1.d f10.b", "f9.c", "f10", "f9.a", "f1.d", "f10.b")
	s.tells("ls -Ur f9.c f10 f9.a f1.d f10.b", "f9.c", "f10", "f9.a", "f1.d", "f10.b")
	s.tells("ls -vr f9.c f10 f9.a ./f1.d", "f10", "f9.c", "f9.a", "./f1.d")
}

// P17.1: the clocks.
func TestClocks(t *testing.T) {
	s := newSite(t).at(4000, 0)
	for i, name := range []string{"a", "b", "c"} {
		id := s.file(0, name, 0)
		s.time(id, i, 3600)
		s.time(id, (i+1)%3, 60)
	}
	row := func(clock, name string) string { return "-rw-r--r-- 1 0 0 0 Jan  1 " + clock + " " + name }
	s.tells("ls -t", "b", "a", "c")
	s.tells("ls -tu", "a", "c", "b")
	s.tells("ls -ut", "a", "c", "b")
	s.tells("ls -tc", "c", "b", "a")
	s.tells("ls -tcu", "a", "c", "b")
	s.tells("ls -tuc", "c", "b", "a")
	s.tells("ls -tc -u -c", "c", "b", "a")
	s.tells("ls -l", "total 0", row("00:01", "a"), row("01:00", "b"), row("00:00", "c"))
	s.tells("ls -lu", "total 0", row("01:00", "a"), row("00:00", "b"), row("00:01", "c"))
	s.tells("ls -lcu", "total 0", row("01:00", "a"), row("00:00", "b"), row("00:01", "c"))
	s.tells("ls -lc", "total 0", row("00:00", "a"), row("00:01", "b"), row("01:00", "c"))
	s.tells("ls -luct", "total 0", row("01:00", "c"), row("00:01", "b"), row("00:00", "a"))
	// A clock alone is no order.
	s.tells("ls -u", "a", "b", "c")
	s.tells("ls -c", "a", "b", "c")
}

// P17.1: the env's time and offset, near, far, and below 0.
func TestTimes(t *testing.T) {
	s := newSite(t)
	s.time(s.file(0, "f", 0), 1, -3600)
	row := func(when string) []string { return []string{"total 0", "-rw-r--r-- 1 0 0 0 " + when + " f"} }
	s.at(0, 0).tells("ls -l", row("Dec 31 23:00")...)
	s.at(0, 3600).tells("ls -l", row("Jan  1 00:00")...)
	s.at(0, 3660).tells("ls -l", row("Jan  1 00:01")...)
	s.at(0, -86400).tells("ls -l", row("Dec 30 23:00")...)
	s.at(-3601, 0).tells("ls -l", row("Dec 31  1969")...)
	s.at(-3600, 0).tells("ls -l", row("Dec 31 23:00")...)
	s.at(-3600+15778475, 0).tells("ls -l", row("Dec 31 23:00")...)
	s.at(-3600+15778476, 0).tells("ls -l", row("Dec 31  1969")...)
	s.at(math.MaxInt64, 3600).tells("ls -l", row("Jan  1  1970")...)
	s.at(math.MinInt64, -1).tells("ls -l", row("Dec 31  1969")...)
	// What a place's offset may be at most is layer 4's.
	for _, offset := range []int{math.MaxInt, math.MinInt, 86401, -86401} {
		got := s.at(0, offset).run("ls", "-l")
		want := list.Rows(s.f, entries(s, 0), list.How{Form: 4, Clock: 1, Offset: offset})
		if got.out != rows(append([]string{"total 0"}, want...)) || got.status != 0 {
			s.errorf("at %d: %s, want %q", offset, got, want)
		}
	}
}

// P17.1: marks, numbers and blocks ahead, quotes, hidden names.
func TestWhatStandsAtNames(t *testing.T) {
	s := newSite(t)
	s.file(0, "a b", 5000)
	s.mode(s.file(0, ".x\"\n\xff", 0), 0755)
	s.dir(0, "d")
	s.link(0, "l", "a b")
	s.dir(0, ".h")
	s.tells("ls", "a b", "d", "l")
	s.tells("ls -a", ".h", ".x\"\n\xff", "a b", "d", "l")
	s.tells("ls -aa --all", ".h", ".x\"\n\xff", "a b", "d", "l")
	s.tells("ls -F", "a b", "d/", "l@")
	s.tells("ls -FaF", ".h/", ".x\"\n\xff*", "a b", "d/", "l@")
	s.tells("ls -i", "2 a b", "4 d", "5 l")
	s.tells("ls -ia", "6 .h", "3 .x\"\n\xff", "2 a b", "4 d", "5 l")
	s.tells("ls -s", "total 12", "8 a b", "4 d", "0 l")
	s.tells("ls -sa", "total 16", "4 .h", "0 .x\"\n\xff", "8 a b", "4 d", "0 l")
	s.tells("ls -si", "total 12", "2 8 a b", "4 4 d", "5 0 l")
	s.tells("ls -Q", "\"a b\"", "\"d\"", "\"l\"")
	s.tells("ls -QaF", "\".h\"/", `".x\"\n\377"*`, "\"a b\"", "\"d\"/", "\"l\"@")
	s.tells("ls -g", "d", "a b", "l")
	s.tells("ls -gr", "d", "l", "a b")
	s.tells("ls --group-directories-first -aS", ".h", "d", "a b", "l", ".x\"\n\xff")
	s.tells("ls -gU", "a b", "d", "l")
	s.tells("ls -lQFis", "total 12",
		"2 8 -rw-r--r-- 1 0 0 5000 Jan  1 00:00 \"a b\"", "4 4 drwxr-xr-x 2 0 0 4096 Jan  1 00:00 \"d\"/",
		"5 0 lrwxrwxrwx 1 0 0    3 Jan  1 00:00 \"l\"@ -> \"a b\"")
	s.wide(30).tells("ls -sCFQi", "total 12", "2 8 \"a b\"  4 4 \"d\"/  5 0 \"l\"@")
	s.wide(20).tells("ls -mFg", "d/, a b, l@")
}

// P17.1: the row total, of what is shown, where the form is long or with s.
func TestTotal(t *testing.T) {
	s := newSite(t)
	d := s.dir(0, "d")
	id := s.file(d, "f", 1)
	s.name(d, "g", id)
	s.file(d, ".h", 4097)
	s.dir(0, "empty")
	for _, form := range []string{"1", "C", "x", "m"} {
		s.tells("ls -" + form + " empty")
		s.tells("ls -s"+form+" empty", "total 0")
	}
	s.tells("ls empty")
	s.tells("ls -l empty", "total 0")
	s.tells("ls -l1 empty")
	s.tells("ls -1l empty", "total 0")
	s.tells("ls -ls empty", "total 0")
	s.tells("ls -s d", "total 8", "4 f", "4 g")
	s.tells("ls -sa d", "total 16", "8 .h", "4 f", "4 g")
	s.wide(80).tells("ls -sm d", "total 8", "4 f, 4 g")
	// None stands ahead of operands that are no directories.
	s.tells("ls -s d/f d/g", "4 d/f", "4 d/g")
	s.tells("ls -sd d", "4 d")
	s.tells("ls -l d/f", "-rw-r--r-- 2 0 0 1 Jan  1 00:00 d/f")
	s.tells("ls -ld d", "drwxr-xr-x 2 0 0 4096 Jan  1 00:00 d")
	s.tells("ls -sl empty d/f d", "4 -rw-r--r-- 2 0 0 1 Jan  1 00:00 d/f", "",
		"d:", "total 8", "4 -rw-r--r-- 2 0 0 1 Jan  1 00:00 f", "4 -rw-r--r-- 2 0 0 1 Jan  1 00:00 g", "", "empty:", "total 0")
}

// P17.1: operands that are no directories, then each directory.
func TestOperandsOfLs(t *testing.T) {
	s := newSite(t)
	s.files(s.dir(0, "b"), "2", "1")
	s.files(s.dir(0, "a"), "3", ".4")
	s.dir(0, "empty")
	s.files(0, "g", "f")
	s.tells("ls b", "1", "2")
	s.tells("ls empty")
	s.tells("ls f", "f")
	s.tells("ls g f", "f", "g")
	s.tells("ls g f g", "f", "g", "g")
	s.tells("ls b a", "a:", "3", "", "b:", "1", "2")
	s.tells("ls a b", "a:", "3", "", "b:", "1", "2")
	s.tells("ls b b", "b:", "1", "2", "", "b:", "1", "2")
	s.tells("ls b f", "f", "", "b:", "1", "2")
	s.tells("ls f b", "f", "", "b:", "1", "2")
	s.tells("ls b g empty f a empty b", "f", "g", "", "a:", "3", "", "b:", "1", "2", "", "b:", "1", "2", "", "empty:", "", "empty:")
	s.tells("ls empty b", "b:", "1", "2", "", "empty:")
	s.tells("ls empty a", "a:", "3", "", "empty:")
	s.tells("ls empty empty", "empty:", "", "empty:")
	s.tells("ls -a a b/1", "b/1", "", "a:", ".4", "3")
	// The operands' bytes tell, whatever the order within their lists.
	s.tells("ls -r a b", "a:", "3", "", "b:", "2", "1")
	s.tells("ls -rg f b g a", "g", "f", "", "a:", "3", "", "b:", "2", "1")
	s.tells("ls -U b a", "a:", "3", "", "b:", "1", "2")
	s.tells("ls -1 b/../a a/. //a ./b", "./b:", "1", "2", "", "//a:", "3", "", "a/.:", "3", "", "b/../a:", "3")
}

// P17.1: a directory's name stands ahead of its list, if there is more than
// one operand, also if something is wrong with the others.
func TestHeads(t *testing.T) {
	s := newSite(t)
	s.files(s.dir(0, "d"), "f")
	gone := errs("ls: 'gone': No such file or directory")
	s.tells("ls d", "f")
	s.fails("ls gone", gone)
	s.fails("ls gone d", gone, "d:", "f")
	s.fails("ls d gone", gone, "d:", "f")
	s.fails("ls -l d gone", gone, "d:", "total 0", "-rw-r--r-- 1 0 0 0 Jan  1 00:00 f")
	s.fails("ls d/f gone", gone, "d/f")
	s.fails("ls d gone d/f", gone, "d/f", "", "d:", "f")
	s.fails("ls -d gone d", gone, "d")
	// The head is the operand as it is.
	s.tells("ls d d/ ./d //d/. d/../d", "./d:", "f", "", "//d/.:", "f", "", "d:", "f", "", "d/:", "f", "", "d/../d:", "f")
	s.file(s.dir(0, "a b\n\"\xff"), "g", 0)
	s.tellsArgs(args("ls", "-Q", "a b\n\"\xff", "d"), "a b\n\"\xff:", "\"g\"", "", "d:", "\"f\"")
}

// P17.1: what can't be gone through has a message in the place of its list.
func TestLsOfClosedDirectories(t *testing.T) {
	s := newSite(t)
	for _, name := range []string{"a", "b", "c"} {
		s.files(s.dir(0, name), "f"+name)
	}
	entry := entries(s, 0)
	s.mode(entry[1].Id, 0444)
	one := s.by(5)
	one.fails("ls b", errs("ls: 'b': Permission denied"))
	one.fails("ls -l b", errs("ls: 'b': Permission denied"))
	one.fails("ls -sa b", errs("ls: 'b': Permission denied"))
	one.fails("ls c b a", errs("ls: 'b': Permission denied"), "a:", "fa", "", "b:", "", "c:", "fc")
	one.fails("ls c b a gone", errs("ls: 'gone': No such file or directory", "ls: 'b': Permission denied"), "a:", "fa", "", "b:", "", "c:", "fc")
	one.fails("ls b b", errs("ls: 'b': Permission denied", "ls: 'b': Permission denied"), "b:", "", "b:")
	one.tells("ls -d b", "b")
	one.tells("ls -ld b", "dr--r--r-- 2 0 0 4096 Jan  1 00:00 b")
	s.tells("ls b", "fb")
	s.mode(entry[1].Id, 0111)
	one.fails("ls b", errs("ls: 'b': Permission denied"))
	one.tells("ls b/fb", "b/fb")
	s.unreadable(entry[1].Id)
	s.unreadable(entry[2].Id)
	s.fails("ls c b a", errs("ls: 'b': Input/output error", "ls: 'c': Input/output error"), "a:", "fa", "", "b:", "", "c:")
	one.fails("ls -s c b a", errs("ls: 'b': Permission denied", "ls: 'c': Input/output error"), "a:", "total 0", "0 fa", "", "b:", "", "c:")
	s.fails("ls ./c", errs("ls: './c': Input/output error"))
	s.tells("ls -dl c", "drwxr-xr-x 2 0 0 4096 Jan  1 00:00 c")
}

// P17.1: links are followed, but where the form is long, or with d.
func TestLsOfLinks(t *testing.T) {
	s := linked(t)
	s.tells("ls to", "f", "in")
	s.tells("ls file", "file")
	s.tells("ls -F file", "file")
	s.tells("ls -F d", "f", "in@")
	s.tells("ls -s file", "4 file")
	s.tells("ls -s d/in", "4 d/in")
	s.tells("ls -i file d/f", "3 d/f", "3 file")
	s.fails("ls circle lost", errs("ls: 'circle': Too many levels of symbolic links", "ls: 'lost': No such file or directory"))
	s.tells("ls -l to", "lrwxrwxrwx 1 0 0 1 Jan  1 00:00 to -> d")
	s.tells("ls -l to/", "total 4", "-rw-r--r-- 1 0 0 5 Jan  1 00:00 f", "lrwxrwxrwx 1 0 0 1 Jan  1 00:00 in -> f")
	s.tells("ls -l to/in file", "lrwxrwxrwx 1 0 0 4 Jan  1 00:00 file -> d/in", "lrwxrwxrwx 1 0 0 1 Jan  1 00:00 to/in -> f")
	s.tells("ls -l circle lost", "lrwxrwxrwx 1 0 0 6 Jan  1 00:00 circle -> circle", "lrwxrwxrwx 1 0 0 4 Jan  1 00:00 lost -> gone")
	s.tells("ls -dF to circle d lost file", "circle@", "d/", "file@", "lost@", "to@")
	s.tells("ls -dF to/ to/in to/.", "to//", "to/./", "to/in@")
	s.tells("ls -di to d", "2 d", "5 to")
	// The last form tells.
	s.tells("ls -l1 to", "f", "in")
	s.tells("ls -lC -w 80 to", "f  in")
	s.tells("ls -1l to", "lrwxrwxrwx 1 0 0 1 Jan  1 00:00 to -> d")
	s.fails("ls -lm lost", errs("ls: 'lost': No such file or directory"))
	s.fails("ls -l circle/ lost/ file/", errs(
		"ls: 'circle/': Too many levels of symbolic links", "ls: 'lost/': No such file or directory", "ls: 'file/': Not a directory",
	))
}

// P17.1: all operands are one list, with d.
func TestLsOfDirectoriesAsTheyAre(t *testing.T) {
	s := newSite(t)
	s.files(s.dir(0, "b"), "f")
	s.files(0, ".h", "a", "c")
	s.tells("ls -d", ".")
	s.tells("ls -da", ".")
	s.tells("ls -ld", "drwxr-xr-x 3 0 0 4096 Jan  1 00:00 .")
	s.tells("ls -d b", "b")
	s.tells("ls -dd c b a .h b", ".h", "a", "b", "b", "c")
	s.tells("ls -dr c b a", "c", "b", "a")
	s.tells("ls -dg c b a", "b", "a", "c")
	s.tells("ls -dU c b a", "c", "b", "a")
	s.tells("ls -d / // b/.. b/f", "/", "//", "b/..", "b/f")
	s.wide(80).tells("ls -dC c b a", "a  b  c")
	s.fails("ls -d gone b", errs("ls: 'gone': No such file or directory"), "b")
}

// P17.1, DOC.md: the fourth example of the whole.
func TestLsOfCoveredDirectories(t *testing.T) {
	s := newSite(t)
	d := s.dir(0, "d")
	s.files(d, "before")
	s.tells("ls d", "before")
	over := s.cover(d)
	s.tells("ls d")
	s.file(over, "in", 5000)
	s.tells("ls d", "in")
	s.tells("ls -ls d", "total 8", "8 -rw-r--r-- 1 0 0 5000 Jan  1 00:00 in")
	s.tells("ls -i", "1 d")
	s.tells("ls -id d d/..", "1 d", "1 d/..")
	s.fails("ls d/before", errs("ls: 'd/before': No such file or directory"))
	s.mode(over, 0700)
	s.by(5).fails("ls d", errs("ls: 'd': Permission denied"))
	s.mode(d, 0)
	s.mode(over, 0755)
	s.by(5).tells("ls d", "in")
}

// P6: what ls -Q writes is read back.
func TestLsOfAnyNames(t *testing.T) {
	s := newSite(t)
	names := []string{"a b", "'", "\"", "\\", "\n", "\t\r", "\xff", "\xc3\x28", "\u3042", "e\u0301", "-", "--", "$'x'", "\x01", "\x7f", "~", "it's \"\\n"}
	s.files(0, names...)
	slices.Sort(names)
	s.tells("ls -a", names...)
	s.tells("ls -Qa",
		`"\001"`, `"\t\015"`, `"\n"`, `"\""`, `"$'x'"`, `"'"`, `"-"`, `"--"`, `"\\"`, `"a b"`, "\"e\u0301\"", `"it's \"\\n"`, `"~"`, `"\177"`,
		`"`+`\303(`+`"`, "\"\u3042\"", `"\377"`)
	for _, name := range names {
		got := s.run("ls", "-Q", "--", name)
		s.isC(got.out, name)
	}
}

// entries are those that are shown of a directory to who may see all.
func entries(s site, id int) []entry {
	s.t.Helper()
	l, _ := roam.Shown(s.f, root, id, true)
	return l
}
