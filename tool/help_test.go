package tool

import (
	"fmt"
	"math"
	"slices"
	"strings"
	"testing"

	"domesday/api"
	"domesday/quote"
	"domesday/vfs"
)

// errorNames are the names by which answers are told.
var errorNames = []string{
	"OK", "ErrArg", "ErrNoEnt", "ErrNotDir", "ErrExists", "ErrAccess", "ErrLoop", "ErrLong", "ErrIO", "ErrMany",
	"ErrOption", "ErrForm",
}

// errnos are all errors, and numbers that are none.
var errnos = []api.Errno{
	api.OK, api.ErrArg, api.ErrNoEnt, api.ErrNotDir, api.ErrExists, api.ErrAccess, api.ErrLoop, api.ErrLong, api.ErrIO, api.ErrMany,
	api.ErrOption, api.ErrForm, 12, 13, 255, 256, 258, -1, -2, -5, math.MaxInt, math.MinInt, math.MinInt + 2,
}

// toolNames are those of all tools.
var toolNames = []string{"ls", "stat", "du", "df", "tree", "readlink", "realpath"}

// result is what a run came to.
type result struct {
	out, err string
	status   int
}

// site is where a test builds its file system and runs the tools.
type site struct {
	t   *testing.T
	f   *vfs.FS
	who api.Cred
	env Env
	// wrong is how often something was other than it should be.
	wrong *int
}

func newSite(t *testing.T) site {
	return site{t: t, f: vfs.New(), wrong: new(int)}
}

// errorf tells what is other than it should be; of much of that no more than
// some.
func (s site) errorf(format string, args ...any) {
	s.t.Helper()
	if *s.wrong++; *s.wrong > 4 {
		s.t.Fatalf(format, args...)
	}
	s.t.Errorf(format, args...)
}

// do makes a change, which must be taken.
func (s site) do(c vfs.Change) int {
	s.t.Helper()
	id, err := s.f.Do(c)
	if err != api.OK {
		s.t.Fatalf("Do(%d, At %d, To %d, %.20q): %s", c.Kind, c.At, c.To, c.Name, errorNames[err])
	}
	return id
}

// dir makes a directory, of 4096 bytes and 8 blocks.
func (s site) dir(at int, name string) int {
	s.t.Helper()
	return s.do(vfs.Change{Kind: 0, At: at, Name: name, A: 0755})
}

// file makes a file of some bytes, which has 8 blocks for each 4096 begun.
func (s site) file(at int, name string, size int64) int {
	s.t.Helper()
	return s.do(vfs.Change{Kind: 1, At: at, Name: name, A: 0644, N: size})
}

// files makes some empty files.
func (s site) files(at int, names ...string) {
	s.t.Helper()
	for _, name := range names {
		s.file(at, name, 0)
	}
}

// link makes a link, which has no blocks.
func (s site) link(at int, name, text string) int {
	s.t.Helper()
	return s.do(vfs.Change{Kind: 3, At: at, Name: name, Text: text})
}

func (s site) name(at int, name string, to int) {
	s.t.Helper()
	s.do(vfs.Change{Kind: 2, At: at, Name: name, To: to})
}

func (s site) mode(to, mode int) {
	s.t.Helper()
	s.do(vfs.Change{Kind: 4, To: to, A: mode})
}

func (s site) owner(to, uid, gid int) {
	s.t.Helper()
	s.do(vfs.Change{Kind: 5, To: to, A: uid, B: gid})
}

func (s site) time(to, clock int, time int64) {
	s.t.Helper()
	s.do(vfs.Change{Kind: 6, To: to, A: clock, N: time})
}

func (s site) cover(to int) int {
	s.t.Helper()
	return s.do(vfs.Change{Kind: 7, To: to, A: 0755})
}

func (s site) unreadable(to int) {
	s.t.Helper()
	s.do(vfs.Change{Kind: 8, To: to})
}

// linked is a site with links to a directory, to a link to a file in it, to
// itself, and to nothing.
func linked(t *testing.T) site {
	s := newSite(t)
	d := s.dir(0, "d")
	s.file(d, "f", 5)
	s.link(d, "in", "f")
	s.link(0, "to", "d")
	s.link(0, "file", "d/in")
	s.link(0, "circle", "circle")
	s.link(0, "lost", "gone")
	return s
}

// by is the site as somebody with that uid, of no group that owns anything,
// asks.
func (s site) by(uid int) site {
	s.who = api.Cred{Uid: uid, Gid: uid}
	return s
}

// wide is the site as it is told in a width.
func (s site) wide(width int) site {
	s.env.Width = width
	return s
}

// at is the site at a time, in a place that is so far ahead.
func (s site) at(now int64, offset int) site {
	s.env.Now, s.env.Offset = now, offset
	return s
}

// run runs a tool.
func (s site) run(args ...string) result {
	s.t.Helper()
	out, err, status := Run(s.f, s.who, s.env, args)
	return result{out, err, status}
}

// is holds what a run comes to against what it should.
func (s site) is(want result, args []string) {
	s.t.Helper()
	got := s.run(args...)
	if got == want {
		return
	}
	s.errorf("%s by %v in %v:\n%s\nwant:\n%s", cut(fmt.Sprintf("%q", args)), s.who, s.env, got, want)
}

// tells holds a run, with which nothing is wrong, against the rows of its OUT.
// A command's words stand between its blanks.
func (s site) tells(command string, out ...string) {
	s.t.Helper()
	s.is(result{out: rows(out)}, strings.Fields(command))
}

// tellsArgs is as tells, of words that may have blanks.
func (s site) tellsArgs(args []string, out ...string) {
	s.t.Helper()
	s.is(result{out: rows(out)}, args)
}

// fails holds a run with whose operands something is wrong against the rows of
// its ERR and of its OUT.
func (s site) fails(command string, err []string, out ...string) {
	s.t.Helper()
	s.is(result{rows(out), rows(err), 1}, strings.Fields(command))
}

// failsArgs is as fails, of words that may have blanks.
func (s site) failsArgs(args []string, err []string, out ...string) {
	s.t.Helper()
	s.is(result{rows(out), rows(err), 1}, args)
}

// refuses holds a run with whose arguments something is wrong against what is
// blamed.
func (s site) refuses(blamed string, args ...string) {
	s.t.Helper()
	s.is(result{"", args[0] + ": invalid argument " + quote.Quote(2, blamed) + "\n", 2}, args)
}

// lacks holds a run against one that misses operands.
func (s site) lacks(args ...string) {
	s.t.Helper()
	s.is(result{"", args[0] + ": missing operand\n", 2}, args)
}

// alike holds runs of several commands against one another.
func (s site) alike(commands ...string) {
	s.t.Helper()
	want := s.run(strings.Fields(commands[0])...)
	for _, command := range commands[1:] {
		s.is(want, strings.Fields(command))
	}
}

// differ tells if two commands come to the same, as they shouldn't.
func (s site) differ(one, other string) {
	s.t.Helper()
	if s.run(strings.Fields(one)...) == s.run(strings.Fields(other)...) {
		s.errorf("%s comes to the same as %s", one, other)
	}
}

// errs are the rows of an ERR.
func errs(l ...string) []string {
	return l
}

// args are those of a run.
func args(l ...string) []string {
	return l
}

// rows joins rows, each with its end.
func rows(l []string) string {
	return strings.Join(append(slices.Clone(l), ""), "\n")
}

// String writes what a run came to.
func (r result) String() string {
	return fmt.Sprintf("status %d, ERR %s, OUT%s", r.status, cut(r.err), told(strings.SplitAfter(r.out, "\n")))
}

// told writes a few rows.
func told(l []string) string {
	var out strings.Builder
	for i, row := range l {
		if i == 30 {
			fmt.Fprintf(&out, "\n\t.. of %d", len(l))
			break
		}
		fmt.Fprintf(&out, "\n\t%s", cut(row))
	}
	return out.String()
}

// cut writes a text, cut.
func cut(text string) string {
	if len(text) > 300 {
		return fmt.Sprintf("%.300q.. of %d bytes", text, len(text))
	}
	return fmt.Sprintf("%q", text)
}

// entry is a name in a directory.
type entry = api.Entry

// root is who may see all.
var root = api.Cred{}

// isC holds a row of a name, as C quotes it, against the name.
func (s site) isC(row, name string) {
	s.t.Helper()
	text, hasEnd := strings.CutSuffix(row, "\n")
	if got, ok := quote.C(text); got != name || !ok || !hasEnd {
		s.errorf("%s is read as %s, %v, want %s", cut(row), cut(got), ok, cut(name))
	}
}

// isShell holds a text between two others, as a shell reads it, against what it
// should be.
func (s site) isShell(text, ahead, want, behind string) {
	s.t.Helper()
	quoted, has := strings.CutPrefix(text, ahead)
	quoted, hasEnd := strings.CutSuffix(quoted, behind)
	if got, ok := quote.Shell(quoted); got != want || !ok || !has || !hasEnd {
		s.errorf("%s is read as %s, %v, want %s", cut(text), cut(got), ok, cut(want))
	}
}
