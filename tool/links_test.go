package tool

import (
	"fmt"
	"strings"
	"testing"
)

// P17.1: the chapter's example, and a row for each operand.
func TestReadlink(t *testing.T) {
	s := newSite(t)
	s.link(0, "l", "a b\n")
	d := s.dir(0, "d")
	s.file(d, "f", 0)
	s.link(d, "m", "../d")
	s.link(0, "to", "l")
	s.tells("readlink l", "a b\n")
	s.tells("readlink l to l d/m", "a b\n", "l", "a b\n", "../d")
	s.tells("readlink -- d/../to", "l")
	s.fails("readlink d l d/f . /", errs("readlink: 'd': Invalid argument", "readlink: 'd/f': Invalid argument",
		"readlink: '.': Invalid argument", "readlink: '/': Invalid argument"), "a b\n")
	s.fails("readlink gone l to/", errs("readlink: 'gone': No such file or directory", "readlink: 'to/': No such file or directory"), "a b\n")
	s.fails("readlink d/m/ d/m/m", errs("readlink: 'd/m/': Invalid argument"), "../d")
}

// P17.1: readlink of a circle, of nothing, of what can't be read, or not gone
// through.
func TestReadlinkOfOddLinks(t *testing.T) {
	s := newSite(t)
	s.link(0, "circle", "circle")
	s.link(0, "lost", "gone")
	s.link(0, "spoilt", "d")
	s.unreadable(3)
	d := s.dir(0, "d")
	s.link(d, "in", "x")
	s.tells("readlink circle lost d/in", "circle", "gone", "x")
	s.fails("readlink spoilt circle circle/ spoilt/in", errs(
		"readlink: 'spoilt': Input/output error", "readlink: 'circle/': Too many levels of symbolic links", "readlink: 'spoilt/in': Input/output error",
	), "circle")
	s.mode(d, 0644)
	s.by(5).fails("readlink d/in lost", errs("readlink: 'd/in': Permission denied"), "gone")
	s.unreadable(d)
	s.by(0).fails("readlink lost d/in", errs("readlink: 'd/in': Input/output error"), "gone")
}

// P17.1: readlink with f: real paths, also where the last name isn't there.
func TestReadlinkNear(t *testing.T) {
	s := newSite(t)
	d := s.dir(0, "d")
	s.file(d, "f", 0)
	s.link(0, "to", "d")
	s.link(0, "lost", "gone")
	s.link(0, "circle", "circle")
	for _, f := range []string{"-f", "-ff", "--canonicalize", "--can", "-f --"} {
		s.tells("readlink "+f+" to d to/f . to/.. ./new to/new d/../new/", "/d", "/d", "/d/f", "/", "/", "/new", "/d/new", "/new")
		s.fails("readlink "+f+" to/new/x d circle lost/x d/f/x d/new/.", errs(
			"readlink: 'to/new/x': No such file or directory", "readlink: 'circle': Too many levels of symbolic links",
			"readlink: 'lost/x': No such file or directory", "readlink: 'd/f/x': Not a directory", "readlink: 'd/new/.': No such file or directory",
		), "/d")
	}
	s.fails("readlink -f lost", errs("readlink: 'lost': No such file or directory"))
	s.failsArgs(args("readlink", "-f", "", "d/a b"), errs("readlink: '': No such file or directory"), "/d/a b")
	s.tellsArgs(args("readlink", "-f", "it's\n"), "/it's\n")
}

// P17.1: real paths.
func TestRealpath(t *testing.T) {
	s := newSite(t)
	d := s.dir(0, "d")
	e := s.dir(d, "e")
	s.file(e, "a b", 0)
	s.link(0, "to", "d//./e/")
	s.link(e, "up", "../..")
	s.link(d, "abs", "/to/up/d")
	s.tells("realpath /", "/")
	s.tells("realpath . .. ./. /..", "/", "/", "/", "/")
	s.tells("realpath d d/ //d//e/. to to/ to/..", "/d", "/d", "/d/e", "/d/e", "/d/e", "/d")
	s.tells("realpath to/up d/abs/abs/e/up/to", "/", "/d/e")
	s.tellsArgs(args("realpath", "--", "to/a b", "d/abs/e/a b"), "/d/e/a b", "/d/e/a b")
	s.fails("realpath to gone d", errs("realpath: 'gone': No such file or directory"), "/d/e", "/d")
	s.fails("realpath d/new", errs("realpath: 'd/new': No such file or directory"))
}

// P17.1: q has no messages, and the same rows and status.
func TestRealpathQuiet(t *testing.T) {
	s := newSite(t)
	s.dir(0, "d")
	s.link(0, "circle", "circle")
	for _, q := range []string{"-q", "-qq", "--quiet", "--q -q"} {
		s.tells("realpath "+q+" d", "/d")
		s.fails("realpath "+q+" gone", nil)
		s.fails("realpath "+q+" circle d gone d", nil, "/d", "/d")
		s.fails("realpath d gone "+q, nil, "/d")
		s.lacks(strings.Fields("realpath " + q)...)
		s.refuses("-Q", strings.Fields("realpath "+q+" -Q d")...)
	}
	s.fails("realpath circle d gone d", errs(
		"realpath: 'circle': Too many levels of symbolic links", "realpath: 'gone': No such file or directory",
	), "/d", "/d")
	s.fails("realpath d -- -q", errs("realpath: '-q': No such file or directory"), "/d")
}

// P17.1, DOC.md: the third example of the whole.
func TestThirdExampleOfTheWhole(t *testing.T) {
	s := newSite(t)
	s.dir(0, "d")
	s.link(0, "me", "me")
	s.fails("realpath d me / me", errs(
		"realpath: 'me': Too many levels of symbolic links", "realpath: 'me': Too many levels of symbolic links",
	), "/d", "/")
}

// P17.1, P5: a path of 40 links is gone, one of 41 isn't.
func TestMostLinks(t *testing.T) {
	s := newSite(t)
	s.file(0, "l0", 5)
	for n := range 42 {
		s.link(0, fmt.Sprintf("l%d", n+1), fmt.Sprintf("./l%d", n))
	}
	long, loop := "Too many levels of symbolic links", ": 'l41': Too many levels of symbolic links"
	s.fails("realpath l1 l39 l40 l41 l42", errs("realpath"+loop, "realpath: 'l42': "+long), "/l0", "/l0", "/l0")
	s.fails("readlink -f l40 l41", errs("readlink"+loop), "/l0")
	s.fails("stat -L l40 l41", errs("stat"+loop), "l40 regular file 5")
	s.fails("ls l40 l41", errs("ls"+loop), "l40")
	s.fails("df l40 l41", errs("df"+loop), dfHead, "1              0    8         0 100% /")
	s.tells("readlink l40 l41 l42", "./l39", "./l40", "./l41")
	s.tells("stat -c %F l41", "symbolic link")
	s.tells("ls -d l41 l42", "l41", "l42")
	s.tells("du l41", "0\tl41")
	s.tells("tree l41", "l41", "", "0 directories, 0 files")
	// Links in the midst of a path count as well.
	d := s.dir(0, "d")
	s.link(d, "h", ".")
	forty := strings.Repeat("h/", 40)
	s.tells("realpath d/"+forty, "/d")
	s.fails("realpath d/"+forty+"h", errs("realpath: 'd/"+forty+"h': "+long))
	s.tells("readlink d/"+forty+"h", ".")
}

// P17.1, DOC.md: the fourth example of the whole.
func TestPathsOfCoveredDirectories(t *testing.T) {
	s := newSite(t)
	d := s.dir(0, "d")
	s.link(d, "l", "before")
	s.files(d, "before")
	s.tells("realpath d/l", "/d/before")
	over := s.cover(d)
	s.fails("realpath d/l d d/..", errs("realpath: 'd/l': No such file or directory"), "/d", "/")
	s.link(over, "l", "new")
	s.tells("readlink d/l", "new")
	s.fails("readlink -f d/l d/x", errs("readlink: 'd/l': No such file or directory"), "/d/x")
	s.files(over, "new")
	s.tells("realpath d/l d/../d/new", "/d/new", "/d/new")
	s.tells("readlink -f d/l", "/d/new")
}

// P17.1: who may not search a directory has no real path below it.
func TestPathsOfClosedDirectories(t *testing.T) {
	s := newSite(t)
	d := s.dir(0, "d")
	s.file(d, "f", 0)
	s.mode(d, 0644)
	one := s.by(5)
	one.fails("realpath d d/f d/gone d/.", errs(
		"realpath: 'd/f': Permission denied", "realpath: 'd/gone': Permission denied", "realpath: 'd/.': Permission denied",
	), "/d")
	one.fails("readlink -f d/gone d gone", errs("readlink: 'd/gone': Permission denied"), "/d", "/gone")
	s.tells("realpath d/f", "/d/f")
	s.mode(d, 0111)
	one.tells("realpath d/f", "/d/f")
	s.unreadable(d)
	one.fails("realpath d/f d/.", errs("realpath: 'd/f': Input/output error"), "/d")
}
