package tool

import (
	"math"
	"strings"
	"testing"

	"domesday/api"
)

// deep is a site with files in directories in directories.
func deep(t *testing.T) site {
	s := newSite(t)
	a := s.dir(0, "a")
	b := s.dir(a, "b")
	c := s.dir(b, "c")
	s.file(a, "f", 5000)
	s.file(b, "g", 1)
	s.file(c, ".h", 0)
	s.link(c, "l", "/a")
	s.file(0, "k", 4096)
	return s
}

// P17.1: directories, and operands.
func TestDu(t *testing.T) {
	s := deep(t)
	s.tells("du", "4\t./a/b/c", "12\t./a/b", "24\t./a", "32\t.")
	s.tells("du a", "4\ta/b/c", "12\ta/b", "24\ta")
	s.tells("du a/b/", "4\ta/b/c", "12\ta/b/")
	s.tells("du a/b/..", "4\ta/b/../b/c", "12\ta/b/../b", "24\ta/b/..")
	s.tells("du /", "4\t/a/b/c", "12\t/a/b", "24\t/a", "32\t/")
	s.tells("du k a/f a/b/c/l", "4\tk", "8\ta/f", "0\ta/b/c/l")
	s.tells("du a/b k", "4\ta/b/c", "12\ta/b", "4\tk")
}

// P17.1: a tells of all.
func TestDuOfAll(t *testing.T) {
	s := deep(t)
	all := []string{"0\ta/b/c/.h", "0\ta/b/c/l", "4\ta/b/c", "4\ta/b/g", "12\ta/b", "8\ta/f", "24\ta"}
	s.tells("du -a a", all...)
	s.tells("du a --all -aa", all...)
	s.tells("du -a k a/f", "4\tk", "8\ta/f")
}

// P17.1: d's most, s, and the last of them.
func TestDuMost(t *testing.T) {
	s := deep(t)
	lines := []string{"24\ta", "12\ta/b\n24\ta", "4\ta/b/c\n12\ta/b\n24\ta"}
	for n, most := range []string{"0", "1", "2"} {
		s.tells("du -d "+most+" a", lines[n])
		s.tells("du -d"+most+" a", lines[n])
		s.tells("du --max-depth="+most+" a", lines[n])
		s.tells("du -d 9 --max-depth "+most+" a", lines[n])
		s.tells("du -s -d "+most+" a", lines[n])
		s.tells("du -d "+most+" -s a", lines[0])
		s.tells("du -sd"+most+" a", lines[n])
	}
	s.tells("du -d 3 a", lines[2])
	s.tells("du -d 65535 a", lines[2])
	s.tells("du a", lines[2])
	s.tells("du -s a", lines[0])
	s.tells("du -ss a --summarize", lines[0])
	s.tells("du --sum a k", lines[0], "4\tk")
	s.tells("du -as a", lines[0])
	s.tells("du -ad1 a", "12\ta/b", "8\ta/f", "24\ta")
	s.tells("du -ad2 a", "4\ta/b/c", "4\ta/b/g", "12\ta/b", "8\ta/f", "24\ta")
}

// P17.1: B's unit; of 0 as without.
func TestDuUnits(t *testing.T) {
	s := deep(t)
	for unit, want := range map[string]string{
		"0": "24\ta", "1": "24576\ta", "512": "48\ta", "1000": "25\ta", "1024": "24\ta", "4096": "6\ta", "5000": "5\ta", "24575": "2\ta",
		"24576": "1\ta", "65535": "1\ta",
	} {
		s.tells("du -sB"+unit+" a", want)
		s.tells("du -s -B "+unit+" a", want)
		s.tells("du -s -B 7 a -B "+unit, want)
	}
	s.tells("du -B 65535 a", "1\ta/b/c", "1\ta/b", "1\ta")
	s.tells("du -B1 a/b/c/l", "0\ta/b/c/l")
	s.file(0, "great", math.MaxInt64)
	s.tells("du great", "9007199254740992\tgreat")
	s.tells("du -B1 great", "9223372036854775807\tgreat")
	s.tells("du -s", "9007199254740992\t.")
}

// P17.1, DOC.md: the second example of the whole: a file of two names counts
// where it is met first; with l each time.
func TestDuOfTwoNames(t *testing.T) {
	s := newSite(t)
	d := s.dir(0, "d")
	id := s.file(d, "f", 5000)
	s.name(d, "g", id)
	s.name(s.dir(0, "e"), "h", id)
	s.tells("du", "12\t./d", "4\t./e", "20\t.")
	s.tells("du -a", "8\t./d/f", "12\t./d", "4\t./e", "20\t.")
	s.tells("du e d", "12\te", "4\td")
	s.tells("du -l", "20\t./d", "12\t./e", "36\t.")
	s.tells("du -la", "8\t./d/f", "8\t./d/g", "20\t./d", "8\t./e/h", "12\t./e", "36\t.")
	s.tells("du -ll e d", "12\te", "20\td")
	s.tells("du d/f d/g e/h", "8\td/f")
	s.tells("du -l d/f d/g e/h", "8\td/f", "8\td/g", "8\te/h")
}

// P17.1: a directory that is reached twice.
func TestDuOfDirectoriesReachedTwice(t *testing.T) {
	s := deep(t)
	s.tells("du a a", "4\ta/b/c", "12\ta/b", "24\ta")
	s.tells("du a/b/c a/b a", "4\ta/b/c", "8\ta/b", "12\ta")
	s.tells("du a a/b", "4\ta/b/c", "12\ta/b", "24\ta")
	s.tells("du -s a . /", "24\ta", "8\t.")
	s.tells("du -ls a . / k k", "24\ta", "32\t.", "32\t/", "4\tk", "4\tk")
}

// P17.1: links aren't followed.
func TestDuOfLinks(t *testing.T) {
	s := deep(t)
	s.link(0, "to", "a")
	s.link(0, "circle", "circle")
	s.link(0, "lost", "gone")
	s.tells("du to circle lost", "0\tto", "0\tcircle", "0\tlost")
	s.tells("du -s to/", "24\tto/")
	s.tells("du -s to/b", "12\tto/b")
	s.fails("du circle/ lost/", errs("du: 'circle/': Too many levels of symbolic links", "du: 'lost/': No such file or directory"))
}

// P17.1: messages of operands that can't be walked are ahead of those of the
// walks.
func TestDuMessages(t *testing.T) {
	s := deep(t)
	s.files(s.dir(0, "z"), "f")
	s.mode(2, 0)
	s.unreadable(3)
	one := s.by(5)
	denied, spoilt := "du: 'a/b': Permission denied", "du: 'a/b/c': Input/output error"
	one.fails("du a", errs(denied), "4\ta/b", "16\ta")
	one.fails("du -s a", errs(denied), "16\ta")
	one.fails("du -d 1 a", errs(denied), "4\ta/b", "16\ta")
	one.fails("du -a a", errs(denied), "4\ta/b", "8\ta/f", "16\ta")
	one.fails("du a gone z x/", errs("du: 'gone': No such file or directory", "du: 'x/': No such file or directory", denied), "4\ta/b", "16\ta", "4\tz")
	one.fails("du a a", errs(denied), "4\ta/b", "16\ta")
	one.fails("du -ls a a", errs(denied, denied), "16\ta", "16\ta")
	one.fails("du a/b a/b/c", errs("du: 'a/b/c': Permission denied", "du: 'a/b': Permission denied"), "4\ta/b")
	s.fails("du", errs("du: './a/b/c': Input/output error"), "4\t./a/b/c", "12\t./a/b", "24\t./a", "4\t./z", "36\t.")
	s.fails("du -s a", errs(spoilt), "24\ta")
	s.fails("du a/b/c", errs(spoilt), "4\ta/b/c")
	s.fails("du a/b/c/l", errs("du: 'a/b/c/l': Input/output error"))
}

// P17.1, DOC.md: the fourth example of the whole.
func TestDuOfCoveredDirectories(t *testing.T) {
	s := deep(t)
	over := s.cover(2)
	s.file(over, "new", 9000)
	s.tells("du a", "16\ta/b", "28\ta")
	s.tells("du -a a/b", "12\ta/b/new", "16\ta/b")
	// Nodes of one number on two devices are two.
	s.tells("du -a k a/b/new", "4\tk", "12\ta/b/new")
	s.tells("du -a a/b /", "12\ta/b/new", "16\ta/b", "8\t/a/f", "12\t/a", "4\t/k", "20\t/")
}

// P17.1: names are told as they are, and messages quote them.
func TestDuNames(t *testing.T) {
	s := newSite(t)
	d := s.dir(0, "it's\n\xff")
	s.file(d, "a\tb", 0)
	s.tellsArgs(args("du", "-a", "it's\n\xff"), "0\tit's\n\xff/a\tb", "4\tit's\n\xff")
	s.unreadable(d)
	s.fails("du -a", errs("du: './it'\\''s\n\xff': Input/output error"), "4\t./it's\n\xff", "8\t.")
}

// P17.1: no depth is too great.
func TestDuOfDeepDirectories(t *testing.T) {
	s := newSite(t)
	at := 0
	for range 150 {
		at = s.dir(at, "d")
	}
	s.tells("du -s", "404\t.")
	s.tells("du -d1", "400\t./d", "404\t.")
	got := s.run("du")
	if n := strings.Count(got.out, "\n"); n != api.MaxDepth || got.status != 0 {
		t.Errorf("du of directories in directories: %s, of %d rows, want %d", got, n, api.MaxDepth)
	}
}
