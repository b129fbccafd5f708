package tool

import (
	"fmt"
	"slices"
	"strings"
	"testing"

	"domesday/api"
	"domesday/quote"
	"domesday/vfs"
)

// messages are those of the errors that have one of their own.
var messages = map[api.Errno]string{
	api.ErrNoEnt:  "No such file or directory",
	api.ErrNotDir: "Not a directory",
	api.ErrAccess: "Permission denied",
	api.ErrLoop:   "Too many levels of symbolic links",
	api.ErrLong:   "File name too long",
	api.ErrIO:     "Input/output error",
}

// P17.1
func TestMessage(t *testing.T) {
	for e := api.Errno(-300); e <= 300; e++ {
		isMessage(t, e)
	}
	for _, e := range errnos {
		isMessage(t, e)
	}
}

func isMessage(t *testing.T, e api.Errno) {
	t.Helper()
	want := messages[e]
	if want == "" {
		want = "Invalid argument"
	}
	if got := Message(e); got != want {
		t.Fatalf("Message(%d): %q, want %q", e, got, want)
	}
}

// P17.1: no arguments, and no tool.
func TestNoTool(t *testing.T) {
	s := newSite(t)
	s.file(0, "ls", 0)
	want := result{"", "domesday: no such tool\n", 2}
	s.is(want, nil)
	s.is(want, []string{})
	for _, name := range []string{
		"", " ", "LS", "Ls", "lss", "l", "s", " ls", "ls ", "ls\n", "ls\x00", "\xff", "-l", "-", "--", "--all", ".", "/", "/ls", "./ls",
		"domesday", "cat", "dir", "realpat", "realpaths", "read", "readlin", "sta", "stats", "d", "dus", "tre", "trees",
		strings.Repeat("ls", 5000),
	} {
		for _, rest := range [][]string{nil, {""}, {"ls"}, {"/"}, {"-Z", "x"}, {"gone", "--", "-a"}} {
			s.is(want, append([]string{name}, rest...))
		}
	}
}

// P17.1: ls, du and tree without operands have a point, also where options are
// given, or the end of them; df needs none; the others lack one.
func TestWithoutOperands(t *testing.T) {
	s := newSite(t)
	s.file(s.dir(0, "d"), "f", 9)
	for _, ahead := range []string{"", "--", "-a", "-d", "--all --"} {
		s.alike("ls "+ahead, "ls "+ahead+" .")
		s.alike("tree "+ahead, "tree "+ahead+" .")
	}
	for _, ahead := range []string{"", "--", "-a", "-s", "-ld1", "--max-depth 1 --"} {
		s.alike("du "+ahead, "du "+ahead+" .")
	}
	s.tells("ls", "d")
	s.tells("ls -d", ".")
	s.tells("du", "8\t./d", "12\t.")
	s.tells("tree", ".", "\u2514\u2500\u2500 d", "    \u2514\u2500\u2500 f", "", "1 directories, 1 files")
	s.tells("df", "Device 1K-blocks Used Available Use% Mounted", "1              0   12         0 100% /")
	s.alike("df", "df --", "df /", "df -- d/f")
	for _, name := range []string{"stat", "readlink", "realpath"} {
		s.lacks(name)
		s.lacks(name, "--")
	}
	s.lacks("stat", "-c", "%n")
	s.lacks("stat", "-L", "--format=")
	s.lacks("stat", "-c", "--")
	s.lacks("readlink", "-f", "--")
	s.lacks("realpath", "--quiet")
	// What is wrong with arguments is asked ahead of what lacks.
	s.refuses("-x", "stat", "-x")
	s.refuses("-fx", "readlink", "-fx")
	s.refuses("--f", "realpath", "-q", "--f")
}

// letters are those of each tool without a value, with a number, and with a
// text.
var letters = map[string][3]string{
	"ls":       {"alCxm1StXvUrucgFisQd", "w", ""},
	"stat":     {"L", "", "c"},
	"du":       {"asl", "dB", ""},
	"df":       {"", "B", ""},
	"tree":     {"ad", "L", ""},
	"readlink": {"f", "", ""},
	"realpath": {"q", "", ""},
}

// longs are the long names of each tool, behind their letters.
var longs = map[string][]string{
	"ls":       {"aall", "rreverse", "ggroup-directories-first", "wwidth"},
	"stat":     {"cformat", "Ldereference"},
	"du":       {"aall", "ssummarize", "dmax-depth"},
	"tree":     {"aall"},
	"readlink": {"fcanonicalize"},
	"realpath": {"qquiet"},
}

// P17.1: each byte as a letter of each tool: alone, twice, behind another one
// and ahead of one that is none.
func TestLetters(t *testing.T) {
	s := newSite(t)
	s.link(0, "l", "d")
	s.dir(0, "d")
	for _, name := range toolNames {
		for b := range 256 {
			if b == '-' {
				continue
			}
			letter := string([]byte{byte(b)})
			switch {
			case strings.Contains(letters[name][0], letter):
				s.takes(name, "-"+letter, "l")
				s.takes(name, "-"+letter+letter, "--", "l")
				s.refuses("-"+letter+"?", name, "-"+letter+"?", "l")
				s.refuses("-Z", name, "-"+letter, "l", "-Z")
			case strings.Contains(letters[name][1], letter):
				s.takes(name, "-"+letter+"1", "l")
				s.takes(name, "-"+letter, "1", "l", "-"+letter+"0")
				s.refuses("-"+letter, name, "l", "-"+letter)
				s.refuses("?", name, "-"+letter+"?", "l")
				s.refuses("l", name, "-"+letter, "l")
				s.refuses("--", name, "-"+letter, "--", "l")
			case strings.Contains(letters[name][2], letter):
				s.takes(name, "-"+letter+"?", "l")
				s.takes(name, "-"+letter, "--", "l")
				s.takes(name, "-"+letter, "", "l")
				s.refuses("-"+letter, name, "l", "-"+letter)
			default:
				s.refuses("-"+letter, name, "-"+letter, "l")
				s.refuses("-"+letter, name, "gone", "-"+letter)
				s.refuses("-"+letter+"1", name, "-"+letter+"1", "l")
				s.refuses("-"+letter+letter, name, "l", "-"+letter+letter, "-Z")
			}
		}
	}
}

// takes holds a run against one with whose arguments nothing is wrong.
func (s site) takes(args ...string) {
	s.t.Helper()
	if got := s.run(args...); got.status == 2 {
		s.errorf("%q: %s, want another status", args, got)
	}
}

// P17.1: each tool's long names mean its letters, also begun, and no other
// names mean anything.
func TestLongNames(t *testing.T) {
	s := newSite(t)
	s.link(0, "l", "d/e")
	s.link(0, "circle", "circle")
	e := s.dir(s.dir(0, "d"), "e")
	s.files(e, ".h", "x", "y")
	s.dir(e, "z")
	all := []string{"all", "reverse", "group-directories-first", "width", "format", "dereference", "summarize", "max-depth", "canonicalize", "quiet"}
	for _, name := range toolNames {
		for _, other := range all {
			if !slices.ContainsFunc(longs[name], func(l string) bool { return l[1:] == other }) {
				s.refuses("--"+other, name, "--"+other, "l")
				s.refuses("--"+other+"=1", name, "l", "--"+other+"=1")
			}
		}
		for _, l := range longs[name] {
			s.isLong(name, l[:1], l[1:])
		}
		for _, wrong := range []string{"--x", "--All", "--alll", "--unit", "--unit=1", "---", "--=", "--=1", "--long", "--help", "--version", "--a-", "--\xff"} {
			s.refuses(wrong, name, wrong, "l")
		}
	}
}

// isLong holds a tool's long name against its letter.
func (s site) isLong(tool, letter, long string) {
	s.t.Helper()
	for _, b := range "abcdefghijklmnopqrstuvwxyz-_ " {
		s.refuses("--"+long+string(b), tool, "--"+long+string(b), "l")
		s.refuses("--"+long+string(b)+"=1", tool, "--"+long+string(b)+"=1", "l")
	}
	operands := "l d circle l/x gone"
	if tool == "ls" {
		operands = "-C " + operands
	}
	if valued := strings.Contains(letters[tool][1]+letters[tool][2], letter); valued {
		for _, value := range []string{"0", "1", "3"} {
			for n := 1; n <= len(long); n++ {
				s.alike(tool+" -"+letter+value+" "+operands, tool+" --"+long[:n]+" "+value+" "+operands, tool+" --"+long[:n]+"="+value+" "+operands)
			}
		}
		s.differ(tool+" --"+long+" 0 "+operands, tool+" --"+long+"=1 "+operands)
		s.refuses("--"+long, tool, "l", "--"+long)
		return
	}
	for n := 1; n <= len(long); n++ {
		s.alike(tool+" -"+letter+" "+operands, tool+" --"+long[:n]+" "+operands, tool+" "+operands+" --"+long[:n], tool+" --"+long[:n]+" -"+letter+" "+operands)
		s.refuses("--"+long[:n]+"=", tool, "--"+long[:n]+"=", "l")
		s.refuses("--"+long[:n]+"=x", tool, "l", "--"+long[:n]+"=x")
	}
	s.differ(tool+" "+operands, tool+" --"+long+" "+operands)
}

// goodNumbers may be values, badNumbers may not.
var (
	goodNumbers = []string{"0", "1", "9", "10", "99", "1024", "32768", "65534", "65535"}
	badNumbers  = []string{
		"", " ", "x", "-", "--", "-1", "-0", "-65535", "65536", "65537", "131072", "+1", "01", "00", "007", " 1", "1 ", "1\n", "1x", "0x1",
		"1.0", "1e3", "1k", "1_0", "\xff", "it's", "\u0661", "4294967296", "4294967297", "9223372036854775807", "9223372036854775808",
		"-9223372036854775808", "18446744073709551617", strings.Repeat("1", 400),
	}
)

// P17.1: each value that shall be a number.
func TestNumbers(t *testing.T) {
	s := newSite(t)
	s.file(s.dir(0, "d"), "f", 5000)
	for _, o := range []struct{ tool, letter, long string }{
		{"ls", "w", "width"}, {"du", "d", "max-depth"}, {"du", "B", ""}, {"df", "B", ""}, {"tree", "L", ""},
	} {
		for _, n := range goodNumbers {
			for _, ways := range numberWays(o.letter, o.long, n) {
				s.takes(slices.Concat([]string{o.tool}, ways, []string{"d"})...)
			}
		}
		for _, n := range badNumbers {
			for _, way := range numberWays(o.letter, o.long, n) {
				s.refuses(n, slices.Concat([]string{o.tool}, way, []string{"d"})...)
				s.refuses(n, slices.Concat([]string{o.tool, "d"}, way)...)
				// Another value of the letter leaves it wrong.
				s.refuses(n, slices.Concat([]string{o.tool}, way, []string{"-" + o.letter, "7", "d"})...)
				s.refuses(n, slices.Concat([]string{o.tool, "-" + o.letter + "7"}, way, []string{"gone"})...)
				s.refuses(n, slices.Concat([]string{o.tool}, way, []string{"-" + o.letter, "bad"})...)
				s.refuses("-Z", slices.Concat([]string{o.tool}, way, []string{"-Z"})...)
				s.refuses("--what", slices.Concat([]string{o.tool}, way, []string{"--what"})...)
			}
		}
	}
	s.refuses("x", "du", "-dx", "-By")
	s.refuses("y", "du", "-By", "-dx")
	s.refuses("y", "du", "-d1", "-By", "-dx")
	s.refuses("-1", "du", "-s", "-d", "-1")
	s.refuses("-1", "du", "-d", "-1", "-s")
}

// numberWays are the ways in which an option with a value may be given.
func numberWays(letter, long, value string) [][]string {
	ways := [][]string{{"-" + letter, value}}
	if value != "" {
		ways = append(ways, []string{"-" + letter + value})
	}
	if long != "" {
		ways = append(ways, []string{"--" + long, value}, []string{"--" + long + "=" + value})
	}
	return ways
}

// P17.1: a value that is no number doesn't matter where it is a text.
func TestFormatsAreTexts(t *testing.T) {
	s := newSite(t)
	s.file(0, "f", 5)
	for _, text := range badNumbers {
		s.tellsArgs(args("stat", "-c", text, "f"), text)
		s.tellsArgs(args("stat", "--format="+text, "f"), text)
	}
}

// P17.1: what stands behind the end of the options, a - alone, and what begins
// with none, are operands, wherever they stand.
func TestOperands(t *testing.T) {
	s := newSite(t)
	for _, name := range []string{"-", "-a", "--", "--all", "-Z", "a", "-c", "x"} {
		s.file(0, name, 0)
	}
	s.tells("ls -- -a --all -- -Z - a", "-", "--", "--all", "-Z", "-a", "a")
	s.tells("ls -r a - -- -Z", "a", "-Z", "-")
	s.tells("ls a - -r -- -Z -c", "a", "-c", "-Z", "-")
	s.refuses("-Z", "ls", "a", "-Z", "--", "-r")
	s.tells("stat -c %n - -L a -c%n:%s -- -c x", "-:0", "a:0", "-c:0", "x:0")
}

// unwell is a site in which much is wrong with paths, and what is wrong with
// each operand, the last link being followed.
func unwell(t *testing.T) (site, map[string]api.Errno) {
	s := newSite(t)
	d := s.dir(0, "d")
	s.file(d, "f", 5)
	s.link(0, "to", "d/f")
	s.link(0, "circle", "circle")
	s.link(0, "one", "other")
	s.link(0, "other", "one")
	s.link(0, "lost", "d/gone")
	s.link(0, "through", "d/f/x")
	s.link(0, "spoilt", "d")
	s.unreadable(s.f.Count() - 1)
	closed := s.dir(0, "closed")
	s.file(closed, "f", 5)
	s.mode(closed, 0666)
	bad := s.dir(0, "bad")
	s.file(bad, "f", 5)
	s.unreadable(bad)
	s.files(0, "it's", "\xff\n")
	return s, map[string]api.Errno{
		"": api.ErrNoEnt, "gone": api.ErrNoEnt, "d/gone": api.ErrNoEnt, "d/gone/x": api.ErrNoEnt, "lost": api.ErrNoEnt,
		"it": api.ErrNoEnt, "it's'": api.ErrNoEnt, "\xff": api.ErrNoEnt, "-": api.ErrNoEnt, "new\nline": api.ErrNoEnt,
		"d/f/x": api.ErrNotDir, "d/f/": api.ErrNotDir, "to/": api.ErrNotDir, "d/f/.": api.ErrNotDir, "d/f/..": api.ErrNotDir,
		"through": api.ErrNotDir, "it's/": api.ErrNotDir, "\xff\n/x": api.ErrNotDir,
		"closed/f": api.ErrAccess, "closed/.": api.ErrAccess, "closed/..": api.ErrAccess, "closed/gone": api.ErrAccess,
		"circle": api.ErrLoop, "circle/": api.ErrLoop, "circle/x": api.ErrLoop, "one": api.ErrLoop, "other/.": api.ErrLoop,
		strings.Repeat("/", 4097): api.ErrLong, strings.Repeat("d/../", 820): api.ErrLong, strings.Repeat("x", 256): api.ErrLong,
		"d/" + strings.Repeat("'", 256) + "/": api.ErrLong, strings.Repeat("x", 4097): api.ErrLong,
		"bad/f": api.ErrIO, "bad/gone": api.ErrIO, "spoilt": api.ErrIO, "spoilt/f": api.ErrIO,
	}
}

// unfollowed are those of unwell's operands with which nothing is wrong where
// the last link isn't followed.
var unfollowed = []string{"lost", "through", "circle", "one", "spoilt"}

// good are what each tool tells of the operand d/f, in unwell's site, ahead of
// what it tells of all in any case.
var good = map[string]string{
	"ls": "d/f\n", "ls -l": "-rw-r--r-- 1 0 0 5 Jan  1 00:00 d/f\n", "ls -d": "d/f\n", "stat": "d/f regular file 5\n",
	"stat -L": "d/f regular file 5\n", "du": "4\td/f\n", "df": "", "tree": "d/f\n", "realpath": "/d/f\n", "realpath -q": "/d/f\n",
	"readlink -f": "/d/f\n",
}

// behind is what each tool tells in any case, in unwell's site.
var behind = map[string]string{
	"df": "Device 1K-blocks Used Available Use% Mounted\n1              0   28         0 100% /\n", "tree": "\n0 directories, 0 files\n",
}

// P17.1, P1: what is wrong with an operand is told, first, last, and between
// good ones, and leaves the others.
func TestWhatIsWrongWithOperands(t *testing.T) {
	s, wrong := unwell(t)
	s = s.by(1000)
	for command, told := range good {
		words := strings.Fields(command)
		for operand, err := range wrong {
			switch command {
			case "ls -l", "ls -d", "stat", "du", "tree":
				if slices.Contains(unfollowed, operand) {
					continue
				}
			case "readlink -f":
				if err == api.ErrNoEnt || operand == "" {
					continue
				}
			}
			message := fmt.Sprintf("%s: %s: %s\n", words[0], quote.Quote(2, operand), messages[err])
			if command == "realpath -q" {
				message = ""
			}
			run := func(operands ...string) []string { return slices.Concat(words, []string{"--"}, operands) }
			last := behind[words[0]]
			s.is(result{last, message, 1}, run(operand))
			s.is(result{last, message + message, 1}, run(operand, operand))
			s.is(result{told + last, message, 1}, run(operand, "d/f"))
			s.is(result{told + last, message, 1}, run("d/f", operand))
			if command == "du" {
				s.is(result{told + last, message, 1}, run("d/f", operand, "d/f"))
				continue
			}
			s.is(result{told + told + last, message, 1}, run("d/f", operand, "d/f"))
			s.is(result{told + last, message + message, 1}, run(operand, "d/f", operand))
		}
		s.is(result{told + behind[words[0]], "", 0}, append(words, "d/f"))
	}
}

// P17.1: messages stand in the order of what they tell of.
func TestOrderOfMessages(t *testing.T) {
	s, _ := unwell(t)
	for _, command := range []string{"ls", "ls -l", "ls -rU", "ls -d", "stat", "du", "df", "tree", "realpath", "readlink -f"} {
		name := strings.Fields(command)[0]
		got := s.run(strings.Fields(command + " x/y circle/ bad/f d/f/ x/y a/b")...)
		want := rows(errs(
			name+": 'x/y': No such file or directory", name+": 'circle/': Too many levels of symbolic links", name+": 'bad/f': Input/output error",
			name+": 'd/f/': Not a directory", name+": 'x/y': No such file or directory", name+": 'a/b': No such file or directory",
		))
		if got.err != want || got.status != 1 {
			s.errorf("%s: %s, want %s", command, got, cut(want))
		}
	}
}

// P17.1: who asks tells what is wrong.
func TestWhoAsks(t *testing.T) {
	s := newSite(t)
	d := s.dir(0, "d")
	s.file(d, "f", 5)
	s.mode(d, 0750)
	s.owner(d, 7, 8)
	for _, who := range []api.Cred{{Uid: 0, Gid: 0}, {Uid: 7, Gid: 9}, {Uid: 9, Gid: 8}, {Uid: 0, Gid: 9}} {
		s.who = who
		s.tells("ls d", "f")
		s.tells("realpath d/f", "/d/f")
		s.tells("du d", "8\td")
	}
	for _, who := range []api.Cred{{Uid: 9, Gid: 9}, {Uid: 8, Gid: 7}, {Uid: -1, Gid: -1}, {Uid: 1, Gid: 0}} {
		s.who = who
		s.fails("ls d", errs("ls: 'd': Permission denied"))
		s.fails("realpath d/f", errs("realpath: 'd/f': Permission denied"))
		s.fails("du d", errs("du: 'd': Permission denied"), "4\td")
		s.fails("tree d", errs("tree: 'd': Permission denied"), "d", "", "0 directories, 0 files")
		s.tells("stat d", "d directory 4096")
	}
}

// P17.1: what is told of arguments is quoted.
func TestQuotesOfArguments(t *testing.T) {
	s := newSite(t)
	s.is(result{"", "ls: invalid argument '--it'\\''s'\n", 2}, []string{"ls", "--it's"})
	s.is(result{"", "ls: invalid argument ''\n", 2}, []string{"ls", "-w", ""})
	s.is(result{"", "df: invalid argument 'a b'\n", 2}, []string{"df", "-Ba b"})
	s.is(result{"", "tree: invalid argument '-\n\xff'\n", 2}, []string{"tree", "-\n\xff"})
	s.is(result{"", "du: invalid argument '-B'\n", 2}, []string{"du", "-B"})
}

// R5: a file system may have nothing at all, not even what may be searched.
func TestEmptyFileSystem(t *testing.T) {
	s := newSite(t)
	s.tells("ls")
	s.tells("ls -la", "total 0")
	s.tells("ls -d / . ..", ".", "..", "/")
	s.tells("ls / .", ".:", "", "/:")
	s.tells("du", "4\t.")
	s.tells("tree", ".", "", "0 directories, 0 files")
	s.tells("tree /", "/", "", "0 directories, 0 files")
	s.tells("df -B 5", "Device 1K-blocks Used Available Use% Mounted", "1              5    4         1  80% /")
	s.tells("stat /", "/ directory 4096")
	s.tells("realpath / . .. ./../", "/", "/", "/", "/")
	s.tells("readlink -f / new", "/", "/new")
	s.do(vfs.Change{Kind: 4, To: 0, A: 0})
	s = s.by(1)
	s.fails("ls", errs("ls: '.': Permission denied"))
	s.fails("ls /", errs("ls: '/': Permission denied"))
	s.fails("du", errs("du: '.': Permission denied"))
	s.fails("du /", errs("du: '/': Permission denied"), "4\t/")
	s.fails("tree", errs("tree: '.': Permission denied"), "", "0 directories, 0 files")
	s.fails("realpath .", errs("realpath: '.': Permission denied"))
	s.tells("realpath / //", "/", "/")
}
