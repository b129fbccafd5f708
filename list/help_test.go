package list

import (
	"fmt"
	"slices"
	"strings"
	"testing"

	"domesday/api"
	"domesday/vfs"
)

// errorNames are the names by which answers are told.
var errorNames = []string{
	"OK", "ErrArg", "ErrNoEnt", "ErrNotDir", "ErrExists", "ErrAccess", "ErrLoop", "ErrLong", "ErrIO", "ErrMany",
	"ErrOption", "ErrForm",
}

// long is a long list, whose times are told by their days alone, in an order
// that is none.
var long = How{Form: 4, Order: -1, Style: 3, Own: "%F"}

// site is where a test builds its file system.
type site struct {
	t *testing.T
	f *vfs.FS
}

func newSite(t *testing.T) site {
	return site{t, vfs.New()}
}

// do makes a change, which must be taken.
func (s site) do(c vfs.Change) int {
	s.t.Helper()
	id, err := s.f.Do(c)
	if err != api.OK {
		s.t.Fatalf("Do(%d, At %d, To %d, %.20q): %s", c.Kind, c.At, c.To, c.Name, errorNames[err])
	}
	return id
}

// dir makes a directory, of 4096 bytes and 8 blocks.
func (s site) dir(name string) int {
	s.t.Helper()
	return s.do(vfs.Change{Kind: 0, Name: name, A: 0755})
}

// file makes a file of some bytes, which has 8 blocks for each 4096 begun.
func (s site) file(name string, size int64) int {
	s.t.Helper()
	return s.do(vfs.Change{Kind: 1, Name: name, A: 0644, N: size})
}

// link makes a link, which has no blocks.
func (s site) link(name, text string) int {
	s.t.Helper()
	return s.do(vfs.Change{Kind: 3, Name: name, Text: text})
}

func (s site) name(name string, to int) {
	s.t.Helper()
	s.do(vfs.Change{Kind: 2, Name: name, To: to})
}

func (s site) mode(to, mode int) {
	s.t.Helper()
	s.do(vfs.Change{Kind: 4, To: to, A: mode})
}

func (s site) owner(to, uid, gid int) {
	s.t.Helper()
	s.do(vfs.Change{Kind: 5, To: to, A: uid, B: gid})
}

func (s site) time(to, clock int, time int64) {
	s.t.Helper()
	s.do(vfs.Change{Kind: 6, To: to, A: clock, N: time})
}

func (s site) cover(to, mode int) int {
	s.t.Helper()
	return s.do(vfs.Change{Kind: 7, To: to, A: mode})
}

func (s site) unreadable(to int) {
	s.t.Helper()
	s.do(vfs.Change{Kind: 8, To: to})
}

// entry is an entry of a node.
func entry(name string, id int) api.Entry {
	return api.Entry{Name: name, Id: id}
}

// entries are those of one list.
func entries(l ...api.Entry) []api.Entry {
	return l
}

// named are entries of one node by some names.
func named(id int, names ...string) []api.Entry {
	var l []api.Entry
	for _, name := range names {
		l = append(l, entry(name, id))
	}
	return l
}

// isRows holds what Rows answers against what it should.
func (s site) isRows(l []api.Entry, how How, want ...string) {
	s.t.Helper()
	if got := Rows(s.f, l, how); !slices.Equal(got, want) {
		s.t.Errorf("Rows of %s, %+v:%s\nwant:%s", cut(fmt.Sprint(l)), how, told(got), told(want))
	}
}

// isSorted holds what Sorted answers against what it should.
func (s site) isSorted(l []api.Entry, how How, want ...api.Entry) {
	s.t.Helper()
	if got := Sorted(s.f, l, how); !slices.Equal(got, want) {
		s.t.Errorf("Sorted of %s, %+v: %s\nwant %s", cut(fmt.Sprint(l)), how, cut(fmt.Sprint(got)), cut(fmt.Sprint(want)))
	}
}

// isOrder holds the names that Sorted answers, and the rows that Rows does,
// against the names that there should be.
func (s site) isOrder(l []api.Entry, how How, want string) {
	s.t.Helper()
	var names []string
	for _, e := range Sorted(s.f, l, how) {
		names = append(names, e.Name)
	}
	if got := strings.Join(names, " "); got != want {
		s.t.Errorf("Sorted by %+v: %s, want %s", how, got, want)
	}
	if got := strings.Join(Rows(s.f, l, how), " "); got != want {
		s.t.Errorf("Rows by %+v: %s, want %s", how, got, want)
	}
}

// isTotal holds what Total answers against what it should.
func (s site) isTotal(l []api.Entry, want int64) {
	s.t.Helper()
	if got := Total(s.f, l); got != want {
		s.t.Errorf("Total of %s: %d, want %d", cut(fmt.Sprint(l)), got, want)
	}
}

// told writes a few rows.
func told(l []string) string {
	var out strings.Builder
	for i, row := range l {
		if i == 12 {
			fmt.Fprintf(&out, "\n\t.. of %d", len(l))
			break
		}
		fmt.Fprintf(&out, "\n\t%s", cut(row))
	}
	return out.String()
}

// cut writes a text, cut.
func cut(text string) string {
	if len(text) > 200 {
		return fmt.Sprintf("%.200q.. of %d bytes", text, len(text))
	}
	return fmt.Sprintf("%q", text)
}
