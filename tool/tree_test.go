package tool

import (
	"fmt"
	"strings"
	"testing"

	"domesday/api"
)

// lines are rows in which the bars of trees are written by bytes of one column
// each: | and L for what is last and what isn't, I for the bars ahead, . for
// blanks that do not break.
func lines(l ...string) []string {
	bars := strings.NewReplacer("I.. ", "\u2502\u00a0\u00a0 ", "|-- ", "\u251c\u2500\u2500 ", "L-- ", "\u2514\u2500\u2500 ")
	var out []string
	for _, row := range l {
		out = append(out, bars.Replace(row))
	}
	return out
}

// grown is a site with a tree in a.
func grown(t *testing.T) site {
	s := newSite(t)
	a := s.dir(0, "a")
	b := s.dir(a, "b")
	c := s.dir(b, "c")
	s.file(c, "f", 1)
	s.file(c, "g", 1)
	s.file(b, "h", 1)
	e := s.dir(a, "e")
	s.file(s.dir(e, "x"), "y", 1)
	s.file(a, ".k", 1)
	s.dir(e, ".n")
	s.link(a, "d", "b")
	return s
}

// P17.1: bars and blanks, of what is last and what isn't, several deep.
func TestTree(t *testing.T) {
	s := grown(t)
	a := lines(
		"a",
		"|-- b",
		"I.. |-- c",
		"I.. I.. |-- f",
		"I.. I.. L-- g",
		"I.. L-- h",
		"|-- d",
		"L-- e",
		"    L-- x",
		"        L-- y",
	)
	s.tells("tree a", append(a, "", "4 directories, 5 files")...)
	s.tells("tree a a", append(append(a, a...), "", "8 directories, 10 files")...)
	s.tells("tree a/b/", append(lines("a/b/", "|-- c", "I.. |-- f", "I.. L-- g", "L-- h"), "", "1 directories, 3 files")...)
	s.tells("tree a/e/x a/d a/b/h", append(lines("a/e/x", "L-- y", "a/d", "a/b/h"), "", "0 directories, 1 files")...)
	s.tells("tree a/e/x/y", "a/e/x/y", "", "0 directories, 0 files")
}

// P17.1: a shows all.
func TestTreeOfAll(t *testing.T) {
	s := grown(t)
	all := append(lines(
		"a",
		"|-- .k",
		"|-- b",
		"I.. |-- c",
		"I.. I.. |-- f",
		"I.. I.. L-- g",
		"I.. L-- h",
		"|-- d",
		"L-- e",
		"    |-- .n",
		"    L-- x",
		"        L-- y",
	), "", "5 directories, 6 files")
	s.tells("tree -a a", all...)
	s.tells("tree a --all -aa", all...)
	s.tells("tree a/e/.n", "a/e/.n", "", "0 directories, 0 files")
}

// P17.1: L's value is the most.
func TestTreeMost(t *testing.T) {
	s := grown(t)
	for most, want := range map[string][]string{
		"0": {"a", "", "0 directories, 0 files"},
		"1": append(lines("a", "|-- b", "|-- d", "L-- e"), "", "2 directories, 1 files"),
		"2": append(lines("a", "|-- b", "I.. |-- c", "I.. L-- h", "|-- d", "L-- e", "    L-- x"), "", "4 directories, 2 files"),
	} {
		s.tells("tree -L "+most+" a", want...)
		s.tells("tree -L"+most+" a", want...)
		s.tells("tree -L 7 -L"+most+" a", want...)
		s.tells("tree -L0 a -L "+most, want...)
	}
	s.alike("tree a", "tree -L 3 a", "tree -L 4 a", "tree -L 65535 a")
	s.tells("tree -aL1 a", append(lines("a", "|-- .k", "|-- b", "|-- d", "L-- e"), "", "2 directories, 2 files")...)
}

// P17.1: d leaves out what isn't a directory; what is last is told by all.
func TestTreeOfDirectories(t *testing.T) {
	s := grown(t)
	s.tells("tree -d a", append(lines("a", "|-- b", "I.. |-- c", "L-- e", "    L-- x"), "", "4 directories")...)
	s.tells("tree -dad a", append(lines("a", "|-- b", "I.. |-- c", "L-- e", "    |-- .n", "    L-- x"), "", "5 directories")...)
	s.tells("tree -dL 1 a", append(lines("a", "|-- b", "L-- e"), "", "2 directories")...)
	s.tells("tree -d a/b", append(lines("a/b", "|-- c"), "", "1 directories")...)
	s.tells("tree -d a/b/c", "a/b/c", "", "0 directories")
	s.file(1, "z", 0)
	s.tells("tree -d a", append(lines("a", "|-- b", "I.. |-- c", "|-- e", "I.. L-- x"), "", "4 directories")...)
	s.fails("tree -d gone", errs("tree: 'gone': No such file or directory"), "", "0 directories")
}

// P17.1: no link is followed, but where a / stands behind.
func TestTreeOfLinks(t *testing.T) {
	s := newSite(t)
	d := s.dir(0, "d")
	s.file(d, "f", 0)
	s.link(d, "up", "..")
	s.link(0, "to", "d")
	s.link(0, "circle", "circle")
	s.link(0, "lost", "gone")
	s.tells("tree", append(lines(".", "|-- circle", "|-- d", "I.. |-- f", "I.. L-- up", "|-- lost", "L-- to"), "", "1 directories, 5 files")...)
	s.tells("tree to circle lost", "to", "circle", "lost", "", "0 directories, 0 files")
	s.tells("tree to/", append(lines("to/", "|-- f", "L-- up"), "", "0 directories, 2 files")...)
	s.tells("tree -L1 d/up/", append(lines("d/up/", "|-- circle", "|-- d", "|-- lost", "L-- to"), "", "1 directories, 3 files")...)
	s.fails("tree circle/ d/f", errs("tree: 'circle/': Too many levels of symbolic links"), "d/f", "", "0 directories, 0 files")
}

// P17.1: what can't be gone through is a message, and stands in the tree.
func TestTreeMessages(t *testing.T) {
	s := grown(t)
	s.mode(3, 0)
	s.unreadable(7)
	one := s.by(5)
	denied, spoilt := "tree: 'a/b/c': Permission denied", "tree: 'a/e': Input/output error"
	rows := append(lines("a", "|-- b", "I.. |-- c", "I.. L-- h", "|-- d", "L-- e"), "", "3 directories, 2 files")
	one.fails("tree a", errs(denied, spoilt), rows...)
	one.fails("tree -a a", errs(denied, spoilt),
		append(lines("a", "|-- .k", "|-- b", "I.. |-- c", "I.. L-- h", "|-- d", "L-- e"), "", "3 directories, 3 files")...)
	one.fails("tree -d a", errs(denied, spoilt), append(lines("a", "|-- b", "I.. |-- c", "L-- e"), "", "3 directories")...)
	one.fails("tree -L 2 a", errs(spoilt), rows...)
	one.tells("tree -L 1 a", append(lines("a", "|-- b", "|-- d", "L-- e"), "", "2 directories, 1 files")...)
	one.tells("tree -L 0 a/b/c a/e", "a/b/c", "a/e", "", "0 directories, 0 files")
	one.fails("tree a/b/c a/e/", errs(denied, "tree: 'a/e/': Input/output error"), "a/b/c", "a/e/", "", "0 directories, 0 files")
	one.fails("tree a/e gone a/b/c/f a/b/c", errs(
		spoilt, "tree: 'gone': No such file or directory", "tree: 'a/b/c/f': Permission denied", denied,
	), "a/e", "a/b/c", "", "0 directories, 0 files")
	s.fails("tree a/b a/e", errs(spoilt),
		append(lines("a/b", "|-- c", "I.. |-- f", "I.. L-- g", "L-- h", "a/e"), "", "1 directories, 3 files")...)
}

// P17.1, DOC.md: the fourth example of the whole.
func TestTreeOfCoveredDirectories(t *testing.T) {
	s := grown(t)
	over := s.cover(2)
	s.tells("tree a/b", "a/b", "", "0 directories, 0 files")
	s.file(over, "new", 0)
	s.tells("tree a", append(lines("a", "|-- b", "I.. L-- new", "|-- d", "L-- e", "    L-- x", "        L-- y"), "", "3 directories, 3 files")...)
	s.mode(2, 0)
	s.by(5).tells("tree a/b", append(lines("a/b", "L-- new"), "", "0 directories, 1 files")...)
}

// P17.1: names are written as they are.
func TestTreeNames(t *testing.T) {
	s := newSite(t)
	d := s.dir(0, "a b\n")
	s.files(d, "\xff", "it's", "\u3042")
	s.tellsArgs(args("tree", "a b\n"), append(lines("a b\n", "|-- it's", "|-- \u3042", "L-- \xff"), "", "0 directories, 3 files")...)
	s.unreadable(d)
	s.failsArgs(args("tree", "./a b\n"), errs("tree: './a b\n': Input/output error"), "./a b\n", "", "0 directories, 0 files")
	s.fails("tree /", errs("tree: '/a b\n': Input/output error"), append(lines("/", "L-- a b\n"), "", "1 directories, 0 files")...)
}

// P17.1, P4: at the greatest depth none is gone deeper.
func TestTreeOfDeepDirectories(t *testing.T) {
	s := newSite(t)
	at := 0
	for range 150 {
		at = s.dir(at, "d")
	}
	want := []string{"."}
	for depth := range api.MaxDepth {
		want = append(want, strings.Repeat("    ", depth)+"L-- d")
	}
	s.tells("tree", append(lines(want...), "", fmt.Sprintf("%d directories, 0 files", api.MaxDepth))...)
	s.files(0, "e")
	want[1] = "|-- d"
	for depth := 1; depth < api.MaxDepth; depth++ {
		want[depth+1] = "I.. " + strings.Repeat("    ", depth-1) + "L-- d"
	}
	s.tells("tree", append(append(lines(want...), lines("L-- e")...), "", fmt.Sprintf("%d directories, 1 files", api.MaxDepth))...)
}
