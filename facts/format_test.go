package facts

import (
	"math"
	"strings"
	"testing"

	"domesday/vfs"
)

// directives are the bytes behind a % that are one.
const directives = "nNsbaAugidhFXYZ%"

// P16.1: the chapter's example.
func TestFormatOfTheExample(t *testing.T) {
	s := newSite(t)
	s.isFormat(s.file(0, "f", 5), "f", "%n %s", "f 5")
}

// P16.1
func TestFormatOfNoNode(t *testing.T) {
	s := newSite(t)
	s.file(0, "f", 5)
	for _, id := range append([]int{s.f.Count(), s.f.Count() + 1, 300}, nones...) {
		for _, format := range []string{"", "%n", "%", "x", "%%"} {
			s.noFormat(id, "f", format)
			s.noFormat(id, "", format)
		}
	}
	s.isFormat(s.f.Count()-1, "f", "%n", "f")
	s.isFormat(0, "/", "%n", "/")
}

// everything is a file system in which no two facts of a node are alike, and
// what each directive of directives tells of the node.
func everything(s site) (int, []string) {
	s.t.Helper()
	// What covers the directory d is built ahead of f on another device.
	d := s.dir(0, "d")
	s.cover(d, 0755)
	at := s.cover(s.dir(0, "e"), 0755)
	id := s.file(at, "f", 70000)
	s.name(at, "g", id)
	s.name(at, "h", id)
	s.name(at, "i", id)
	s.mode(id, 04651)
	s.owner(id, 1001, 20)
	for clock, time := range []int64{-7, 86400, 1e12} {
		s.time(id, clock, time)
	}
	return id, []string{
		"it's", `'it'\''s'`, "70000", "144", "4651", "-rwSr-x--x", "1001", "20", "2", "3", "4", "regular file",
		"-7", "86400", "1000000000000", "%",
	}
}

// P16.1: each directive alone, twice, and behind each other one.
func TestDirectives(t *testing.T) {
	s := newSite(t)
	id, want := everything(s)
	for i := range directives {
		one := "%" + directives[i:i+1]
		s.isFormat(id, "it's", one, want[i])
		s.isFormat(id, "it's", one+one, want[i]+want[i])
		s.isFormat(id, "it's", "a"+one+" ", "a"+want[i]+" ")
		s.isFormat(id, "it's", one+"%", want[i]+"%")
		for j := range directives {
			s.isFormat(id, "it's", one+"%"+directives[j:j+1], want[i]+want[j])
		}
	}
}

// P16.1: a % and a byte that is no directive stay as they are.
func TestBytesThatAreNoDirectives(t *testing.T) {
	s := newSite(t)
	id := s.file(0, "f", 5)
	for b := range 256 {
		one := "%" + string([]byte{byte(b)})
		if strings.IndexByte(directives, byte(b)) >= 0 {
			continue
		}
		s.isFormat(id, "f", one, one)
		s.isFormat(id, "f", one+one, one+one)
		s.isFormat(id, "f", one+"%n", one+"f")
		s.isFormat(id, "f", "%n"+one+"n", "f"+one+"n")
		s.isFormat(id, "f", "%%"+one[1:]+"%s", "%"+one[1:]+"5")
	}
	s.isFormat(id, "f", "%\u3042%s", "%\u30425")
	// No width or flag stands between a % and its byte.
	for _, format := range []string{"%5s", "%-n", "% n", "%0a", "%ln", "%.n", "%x"} {
		s.isFormat(id, "f", format, format)
	}
}

// P16.1: %s one behind the other.
func TestPercents(t *testing.T) {
	s := newSite(t)
	id := s.file(0, "f", 5)
	for format, want := range map[string]string{
		"%": "%", "%%": "%", "%%%": "%%", "%%%%": "%%", "%%%%%": "%%%",
		"n%": "n%", "%n%": "f%", "%n%%": "f%", "%%n": "%n", "%%%n": "%f", "%%%%n": "%%n", "%n%n%": "ff%", "%q%": "%q%", "%q%%n": "%q%n",
		"100%": "100%", "100% n": "100% n", "% %n": "% f",
	} {
		s.isFormat(id, "f", format, want)
	}
}

// P16.1: all that is no directive stays as it is.
func TestFormatsWithoutDirectives(t *testing.T) {
	s := newSite(t)
	id := s.dir(0, "d")
	many := strings.Repeat("no directive, n s\n", 5000)
	for _, format := range []string{"", "n", "nN sbaA", "\n", "\\n", "a\x00b", "\xff", "\u3042", " ", "$n", "-", many} {
		s.isFormat(id, "d", format, format)
	}
	s.isFormat(id, "d", strings.Repeat("%n%i%%", 20000), strings.Repeat("d2%", 20000))
	s.isFormat(id, "d", many+"%n"+many, many+"d"+many)
}

// P16.1: names of all kinds, as they are and in quotes.
func TestNames(t *testing.T) {
	s := newSite(t)
	f, l := s.file(0, "f", 5), s.link(0, "l", "to")
	many := strings.Repeat("many", 5000)
	for name, quoted := range map[string]string{
		"":  "''",
		"f": "f", "a/b": "a/b", "..": "..", "%n": "%n", "%": "%", "%%s": "%%s", "-": "-", "\u3042": "\u3042", many: many,
		"a b": "'a b'", " ": "' '", `"`: `'"'`, `\`: `'\'`, "'": `''\'''`, "it's": `'it'\''s'`, "%n %s": "'%n %s'",
		"\xff": "'\xff'", "a\nb": "'a\nb'", "\x00": "'\x00'", "~": "'~'", "a b" + many: "'a b" + many + "'",
	} {
		s.isFormat(f, name, "%n", name)
		s.isFormat(f, name, "%N", quoted)
		s.isFormat(f, name, "<%N %n>%s", "<"+quoted+" "+name+">5")
		s.isFormat(l, name, "%n", name)
		s.isFormat(l, name, "%N", quoted+" -> to")
		s.isFormat(0, name, "%N", quoted)
	}
}

// P16.1: of a link its text stands in quotes, too.
func TestTextsOfLinks(t *testing.T) {
	s := newSite(t)
	for text, quoted := range map[string]string{
		"a": "a", "/": "/", "a/..": "a/..", "gone": "gone", "a b": "'a b'", "'": `''\'''`, "\xff": "'\xff'", "\n": "'\n'", "%n": "%n",
		" -> ": "' -> '", strings.Repeat("w", 4096): strings.Repeat("w", 4096),
	} {
		s := newSite(t)
		id := s.link(0, "l", text)
		s.isFormat(id, "l", "%N", "l -> "+quoted)
		s.isFormat(id, "l", "%N%N,", "l -> "+quoted+"l -> "+quoted+",")
		s.isFormat(id, "a b", "%N", "'a b' -> "+quoted)
		s.isFormat(id, "l", "%n", "l")
	}
	// What is no link has none, whether it can be read or not.
	f, d := s.file(0, "f", 5), s.dir(0, "d")
	for range 2 {
		s.isFormat(f, "f", "%N", "f")
		s.isFormat(d, "d", "%N", "d")
		s.unreadable(f)
		s.unreadable(d)
	}
}

// P16.1: of a link that can't be read the text is empty, all else is told.
func TestLinksThatCannotBeRead(t *testing.T) {
	s := newSite(t)
	id := s.link(0, "l", "secret")
	s.isFormat(id, "l", "%N", "l -> secret")
	s.unreadable(id)
	s.isFormat(id, "l", "%N", "l -> ''")
	s.isFormat(id, "a b", "%N,", "'a b' -> '',")
	s.isFormat(id, "l", "%n %s %b %a %A %h %F", "l 6 0 777 lrwxrwxrwx 1 symbolic link")
}

// P16.1
func TestWhatNodesAre(t *testing.T) {
	s := newSite(t)
	none, one := s.file(0, "none", 0), s.file(0, "one", 1)
	d, l := s.dir(0, "d"), s.link(0, "l", "x")
	first := s.cover(s.dir(0, "e"), 0)
	s.mode(none, 07777)
	for range 2 {
		s.isFormat(none, "x", "%F", "regular empty file")
		s.isFormat(one, "x", "%F", "regular file")
		s.isFormat(d, "x", "%F", "directory")
		s.isFormat(l, "x", "%F", "symbolic link")
		s.isFormat(0, "x", "%F", "directory")
		s.isFormat(first, "x", "%F", "directory")
		for _, id := range []int{none, one, d, l} {
			s.unreadable(id)
		}
	}
	s.isFormat(s.file(0, "two", 2), "x", "%F", "regular file")
	s.isFormat(s.file(0, "most", math.MaxInt64), "x", "%F", "regular file")
}

// P16.1: the mode's octal digits, without a nought ahead, and its letters.
func TestModes(t *testing.T) {
	s := newSite(t)
	id := s.file(0, "f", 5)
	for _, c := range []struct {
		mode int
		want string
	}{
		{0, "0 ----------"}, {1, "1 ---------x"}, {7, "7 -------rwx"}, {010, "10 ------x---"}, {0100, "100 ---x------"},
		{0644, "644 -rw-r--r--"}, {01000, "1000 ---------T"}, {07777, "7777 -rwsrwsrwt"}, {06000, "6000 ---S--S---"},
		{070007, "7 -------rwx"}, {-1, "7777 -rwsrwsrwt"},
	} {
		s.mode(id, c.mode)
		s.isFormat(id, "f", "%a %A", c.want)
	}
	d := s.dir(0, "d")
	s.mode(d, 01777)
	s.isFormat(d, "d", "%a %A", "1777 drwxrwxrwt")
}

// P16.1
func TestNumbers(t *testing.T) {
	s := newSite(t)
	f := s.file(0, "f", 5)
	for _, c := range []struct {
		uid, gid int
		want     string
	}{
		{0, 0, "0 0"}, {1, 2, "1 2"}, {10, 200, "10 200"}, {65536, 1000, "65536 1000"}, {-1, 5, "0 5"}, {5, -1, "5 0"},
		{math.MaxInt, 0, "9223372036854775807 0"}, {0, math.MaxInt, "0 9223372036854775807"},
	} {
		s.owner(f, c.uid, c.gid)
		s.isFormat(f, "f", "%u %g", c.want)
	}
	for size, want := range map[int64]string{
		0: "0 0", 1: "1 8", 4096: "4096 8", 4097: "4097 16", math.MaxInt64: "9223372036854775807 18014398509481984",
	} {
		s := newSite(t)
		s.isFormat(s.file(0, "f", size), "f", "%s %b", want)
	}
	s.isFormat(0, "/", "%s %b %h %i %d", "4096 8 2 1 1")
	for i := range 10 {
		s.dir(0, strings.Repeat("d", i+1))
	}
	s.isFormat(0, "/", "%h", "12")
	s.isFormat(f, "f", "%h %i", "1 2")
	s.name(0, "g", f)
	s.isFormat(f, "f", "%h %i", "2 2")
	s.isFormat(s.f.Count()-1, "x", "%h %i", "2 12")
}

// P16.1: times below 0, and far away, each by its own directive.
func TestTimes(t *testing.T) {
	s := newSite(t)
	for clock, directive := range []string{"%X", "%Y", "%Z"} {
		for time, want := range map[int64]string{
			0: "0", 1: "1", -1: "-1", 1e9: "1000000000", math.MinInt64: "-9223372036854775808", math.MaxInt64: "9223372036854775807",
		} {
			f := s.file(0, directive+want, 5)
			s.isFormat(f, "f", directive, "0")
			s.time(f, clock, time)
			s.isFormat(f, "f", directive, want)
			others := strings.ReplaceAll("%X%Y%Z", directive, "")
			s.isFormat(f, "f", others, "00")
		}
	}
}

// P16.1: of a covered directory its own facts are told, and of what covers it
// those of that.
func TestFormatOfDevices(t *testing.T) {
	s := newSite(t)
	d := s.do(vfs.Change{Kind: 0, Name: "d", A: 0700})
	s.dir(d, "below")
	s.owner(d, 8, 9)
	first := s.cover(d, 01777)
	s.owner(first, 70, 80)
	s.time(first, 1, 5)
	const format = "%n %d %i %h %a %A %u %g %Y %F"
	s.isFormat(d, "d", format, "d 1 2 3 700 drwx------ 8 9 0 directory")
	s.isFormat(first, "d", format, "d 2 1 2 1777 drwxrwxrwt 70 80 5 directory")
	s.isFormat(s.file(first, "f", 0), "f", "%d %i", "2 2")
	s.isFormat(s.file(0, "g", 0), "g", "%d %i", "1 4")
}
