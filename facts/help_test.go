package facts

import (
	"fmt"
	"math"
	"slices"
	"strings"
	"testing"

	"domesday/api"
	"domesday/vfs"
)

// errorNames are the names by which answers are told.
var errorNames = []string{
	"OK", "ErrArg", "ErrNoEnt", "ErrNotDir", "ErrExists", "ErrAccess", "ErrLoop", "ErrLong", "ErrIO", "ErrMany",
	"ErrOption", "ErrForm",
}

// nones are numbers below 0, and far too great.
var nones = []int{-1, -2, math.MinInt, math.MaxInt, math.MaxInt32 + 1}

// heads is a table of no rows.
const heads = "Device 1K-blocks Used Available Use% Mounted"

// site is where a test builds its file system.
type site struct {
	t *testing.T
	f *vfs.FS
}

func newSite(t *testing.T) site {
	return site{t, vfs.New()}
}

// do makes a change, which must be taken.
func (s site) do(c vfs.Change) int {
	s.t.Helper()
	id, err := s.f.Do(c)
	if err != api.OK {
		s.t.Fatalf("Do(%d, At %d, To %d, %.20q): %s", c.Kind, c.At, c.To, c.Name, errorNames[err])
	}
	return id
}

// dir makes a directory, of 4096 bytes and 8 blocks.
func (s site) dir(at int, name string) int {
	s.t.Helper()
	return s.do(vfs.Change{Kind: 0, At: at, Name: name, A: 0755})
}

// file makes a file of some bytes, which has 8 blocks for each 4096 begun.
func (s site) file(at int, name string, size int64) int {
	s.t.Helper()
	return s.do(vfs.Change{Kind: 1, At: at, Name: name, A: 0644, N: size})
}

// link makes a link, which has no blocks.
func (s site) link(at int, name, text string) int {
	s.t.Helper()
	return s.do(vfs.Change{Kind: 3, At: at, Name: name, Text: text})
}

func (s site) name(at int, name string, to int) {
	s.t.Helper()
	s.do(vfs.Change{Kind: 2, At: at, Name: name, To: to})
}

func (s site) mode(to, mode int) {
	s.t.Helper()
	s.do(vfs.Change{Kind: 4, To: to, A: mode})
}

func (s site) owner(to, uid, gid int) {
	s.t.Helper()
	s.do(vfs.Change{Kind: 5, To: to, A: uid, B: gid})
}

func (s site) time(to, clock int, time int64) {
	s.t.Helper()
	s.do(vfs.Change{Kind: 6, To: to, A: clock, N: time})
}

func (s site) cover(to, mode int) int {
	s.t.Helper()
	return s.do(vfs.Change{Kind: 7, To: to, A: mode})
}

func (s site) unreadable(to int) {
	s.t.Helper()
	s.do(vfs.Change{Kind: 8, To: to})
}

// isFormat holds what Format answers against what it should.
func (s site) isFormat(id int, name, format, want string) {
	s.t.Helper()
	if got, err := Format(s.f, id, name, format); got != want || err != api.OK {
		s.t.Errorf("Format of %d, %s, %s: %s, %s\nwant %s", id, cut(name), cut(format), cut(got), errorNames[err], cut(want))
	}
}

// noFormat holds what Format answers against an error.
func (s site) noFormat(id int, name, format string) {
	s.t.Helper()
	if got, err := Format(s.f, id, name, format); got != "" || err != api.ErrNoEnt {
		s.t.Errorf("Format of %d, %s, %s: %s, %s, want ErrNoEnt", id, cut(name), cut(format), cut(got), errorNames[err])
	}
}

// isRows holds what Rows answers against what it should.
func (s site) isRows(all int64, want ...Row) {
	s.t.Helper()
	if got := Rows(s.f, all); !slices.Equal(got, want) {
		s.t.Errorf("Rows with %d in all:\n%s\nwant:\n%s", all, cut(fmt.Sprintf("%+v", got)), cut(fmt.Sprintf("%+v", want)))
	}
}

// isTable holds what Table answers against what it should.
func isTable(t *testing.T, l []Row, want ...string) {
	t.Helper()
	if got := Table(l); !slices.Equal(got, want) {
		t.Errorf("Table of %s:%s\nwant:%s", cut(fmt.Sprintf("%+v", l)), told(got), told(want))
	}
}

// rows are those of one table.
func rows(l ...Row) []Row {
	return l
}

// told writes a few rows.
func told(l []string) string {
	var out strings.Builder
	for i, row := range l {
		if i == 12 {
			fmt.Fprintf(&out, "\n\t.. of %d", len(l))
			break
		}
		fmt.Fprintf(&out, "\n\t%s", cut(row))
	}
	return out.String()
}

// cut writes a text, cut.
func cut(text string) string {
	if len(text) > 300 {
		return fmt.Sprintf("%.300q.. of %d bytes", text, len(text))
	}
	return fmt.Sprintf("%q", text)
}
