package tool

import (
	"math"
	"testing"
)

// P17.1: the format that there is without one.
func TestStat(t *testing.T) {
	s := newSite(t)
	s.file(0, "f", 5)
	s.file(s.dir(0, "d"), "a b", 0)
	s.link(0, "l", "d")
	s.tells("stat f", "f regular file 5")
	s.tells("stat d l f", "d directory 4096", "l symbolic link 1", "f regular file 5")
	s.tells("stat f d f f", "f regular file 5", "d directory 4096", "f regular file 5", "f regular file 5")
	s.tells("stat / . .. ./d/.", "/ directory 4096", ". directory 4096", ".. directory 4096", "./d/. directory 4096")
	s.tellsArgs(args("stat", "d/a b", "//f"), "d/a b regular empty file 0", "//f regular file 5")
	s.tells("stat l/", "l/ directory 4096")
	s.fails("stat gone f", errs("stat: 'gone': No such file or directory"), "f regular file 5")
	s.fails("stat f f/ d", errs("stat: 'f/': Not a directory"), "f regular file 5", "d directory 4096")
}

// P17.1: c's format, and the last one of several.
func TestStatFormats(t *testing.T) {
	s := newSite(t)
	id := s.file(0, "f", 5)
	s.mode(id, 04711)
	s.owner(id, 3, 4)
	s.time(id, 0, -1)
	s.time(id, 1, math.MaxInt64)
	s.time(id, 2, math.MinInt64)
	s.link(0, "l", "a b")
	s.tells("stat -c %N|%b|%a|%A|%u|%g|%i|%d|%h|%% f", "f|8|4711|-rws--x--x|3|4|2|1|1|%")
	s.tells("stat -c%X:%Y:%Z f", "-1:9223372036854775807:-9223372036854775808")
	s.tells("stat --format=%N --format %n l f", "l", "f")
	s.tells("stat -c %n l -c %N f", "l -> 'a b'", "f")
	s.tells("stat --f=%q% f", "%q%")
	s.lacks("stat", "--f=%q%")
}

// P17.1: formats that are empty, or no more than a text.
func TestStatTexts(t *testing.T) {
	s := newSite(t)
	s.files(0, "f", "g")
	s.tellsArgs(args("stat", "-c", "", "f", "g"), "", "")
	s.tellsArgs(args("stat", "--format=", "f"), "")
	s.tellsArgs(args("stat", "-c", "a\n%n\\n", "f", "g"), "a\nf\\n", "a\ng\\n")
	s.tellsArgs(args("stat", "-c", "-L", "f"), "-L")
	s.tellsArgs(args("stat", "-cL", "f"), "L")
	s.tellsArgs(args("stat", "-Lc%s", "f"), "0")
	s.tellsArgs(args("stat", "-c", "--", "f"), "--")
	s.tellsArgs(args("stat", "-c", "%n", "--", "f", "g"), "f", "g")
}

// P17.1: L follows links; without it they are told of.
func TestStatOfLinks(t *testing.T) {
	s := linked(t)
	s.link(0, "spoilt", "d")
	s.unreadable(s.f.Count() - 1)
	s.tells("stat to file circle lost spoilt",
		"to symbolic link 1", "file symbolic link 4", "circle symbolic link 6", "lost symbolic link 4", "spoilt symbolic link 1")
	for _, follow := range []string{"-L", "-LL", "--dereference", "--d"} {
		s.fails("stat "+follow+" to file circle lost d/f spoilt", errs(
			"stat: 'circle': Too many levels of symbolic links", "stat: 'lost': No such file or directory", "stat: 'spoilt': Input/output error",
		), "to directory 4096", "file regular file 5", "d/f regular file 5")
	}
	s.tells("stat -c %N:%i -L to file", "to:2", "file:3")
	s.tells("stat -c %N:%i to file", "to -> d:5", "file -> d/in:6")
	s.tells("stat -c %N spoilt to/in", "spoilt -> ''", "to/in -> f")
	s.fails("stat to/ file/../d", errs("stat: 'file/../d': Not a directory"), "to/ directory 4096")
}

// P17.1, DOC.md: the fourth example of the whole.
func TestStatOfCoveredDirectories(t *testing.T) {
	s := newSite(t)
	d := s.dir(0, "d")
	s.tells("stat -c %a:%d:%i d", "755:1:2")
	over := s.cover(d)
	s.mode(over, 01700)
	s.tells("stat -c %a:%d:%i d d/. d/.. .", "1700:2:1", "1700:2:1", "755:1:1", "755:1:1")
	s.by(5).tells("stat -c %A d", "drwx-----T")
	s.by(5).fails("stat d/. d/..", errs("stat: 'd/.': Permission denied", "stat: 'd/..': Permission denied"))
}
