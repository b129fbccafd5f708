package usage

import (
	"fmt"
	"slices"
	"strings"
	"testing"

	"domesday/api"
	"domesday/vfs"
)

// errorNames are the names by which answers are told.
var errorNames = []string{
	"OK", "ErrArg", "ErrNoEnt", "ErrNotDir", "ErrExists", "ErrAccess", "ErrLoop", "ErrLong", "ErrIO", "ErrMany",
	"ErrOption", "ErrForm",
}

var (
	// super is one to whom nothing is closed.
	super = api.Cred{}
	// anybody is one whom the tests' nodes know only as one of the others.
	anybody = api.Cred{Uid: 77, Gid: 88}
)

// Ways to ask, by units of a block, so that sums are easily told.
var (
	dirsAlone = How{Most: -1, Unit: 512}
	allNodes  = How{All: true, Most: -1, Unit: 512}
	eachLink  = How{All: true, Most: -1, Unit: 512, Each: true}
)

// site is where a test builds its file system.
type site struct {
	t *testing.T
	f *vfs.FS
}

func newSite(t *testing.T) site {
	return site{t, vfs.New()}
}

// do makes a change, which must be taken.
func (s site) do(c vfs.Change) int {
	s.t.Helper()
	id, err := s.f.Do(c)
	if err != api.OK {
		s.t.Fatalf("Do(%d, At %d, To %d, %.20q): %s", c.Kind, c.At, c.To, c.Name, errorNames[err])
	}
	return id
}

// dir makes a directory, which has 8 blocks.
func (s site) dir(at int, name string) int {
	s.t.Helper()
	return s.do(vfs.Change{Kind: 0, At: at, Name: name, A: 0755})
}

// file makes a file of some bytes, which has 8 blocks for each 4096 begun.
func (s site) file(at int, name string, size int64) int {
	s.t.Helper()
	return s.do(vfs.Change{Kind: 1, At: at, Name: name, A: 0644, N: size})
}

func (s site) name(at int, name string, to int) {
	s.t.Helper()
	s.do(vfs.Change{Kind: 2, At: at, Name: name, To: to})
}

// link makes a link, which has no blocks.
func (s site) link(at int, name, text string) int {
	s.t.Helper()
	return s.do(vfs.Change{Kind: 3, At: at, Name: name, Text: text})
}

func (s site) mode(to, mode int) {
	s.t.Helper()
	s.do(vfs.Change{Kind: 4, To: to, A: mode})
}

func (s site) owner(to, uid, gid int) {
	s.t.Helper()
	s.do(vfs.Change{Kind: 5, To: to, A: uid, B: gid})
}

func (s site) cover(to int) int {
	s.t.Helper()
	return s.do(vfs.Change{Kind: 7, To: to, A: 0755})
}

func (s site) unreadable(to int) {
	s.t.Helper()
	s.do(vfs.Change{Kind: 8, To: to})
}

// from are the starts of one sum.
func from(l ...Start) []Start {
	return l
}

// line is a line of a node whose sum is known.
func line(units int64, name string) Line {
	return Line{Units: units, Name: name}
}

// failed is the line of one that can't be gone through.
func failed(name string, err api.Errno) Line {
	return Line{Name: name, Err: err}
}

// isSum holds what Sum answers against what it should.
func (s site) isSum(who api.Cred, l []Start, how How, whole int64, want ...Line) {
	s.t.Helper()
	got, sum := Sum(s.f, who, l, how)
	if !slices.Equal(got, want) {
		s.t.Errorf("Sum by %v from %.60v, %+v: %s", who, l, how, difference(got, want))
	}
	if sum != whole {
		s.t.Errorf("Sum by %v from %.60v, %+v: in all %d, want %d", who, l, how, sum, whole)
	}
}

// difference tells where two lists of lines part.
func difference(got, want []Line) string {
	at := 0
	for at < min(len(got), len(want)) && got[at] == want[at] {
		at++
	}
	return fmt.Sprintf("%d lines, want %d; from %d on:%s\nwant:%s", len(got), len(want), at, told(got[at:]), told(want[at:]))
}

// told writes a few lines.
func told(l []Line) string {
	var out strings.Builder
	for i, line := range l {
		if i == 12 {
			out.WriteString("\n\t..")
			break
		}
		fmt.Fprintf(&out, "\n\t%d %s %s", line.Units, cut(line.Name), errorNames[line.Err])
	}
	return out.String()
}

// cut writes a text, cut.
func cut(text string) string {
	if len(text) > 60 {
		return fmt.Sprintf("%.60q.. of %d bytes", text, len(text))
	}
	return fmt.Sprintf("%q", text)
}
