package roam

import (
	"fmt"
	"slices"
	"strings"
	"testing"

	"domesday/api"
	"domesday/vfs"
)

// errorNames are the names by which answers are told.
var errorNames = []string{
	"OK", "ErrArg", "ErrNoEnt", "ErrNotDir", "ErrExists", "ErrAccess", "ErrLoop", "ErrLong", "ErrIO", "ErrMany",
	"ErrOption", "ErrForm",
}

var (
	// super is one to whom nothing is closed.
	super = api.Cred{}
	// anybody is one whom the tests' nodes know only as one of the others.
	anybody = api.Cred{Uid: 77, Gid: 88}
	// everybody is both.
	everybody = []api.Cred{super, anybody}
)

// site is where a test builds its file system.
type site struct {
	t *testing.T
	f *vfs.FS
}

func newSite(t *testing.T) site {
	return site{t, vfs.New()}
}

// do makes a change, which must be taken.
func (s site) do(c vfs.Change) int {
	s.t.Helper()
	id, err := s.f.Do(c)
	if err != api.OK {
		s.t.Fatalf("Do(%d, At %d, To %d, %.20q): %s", c.Kind, c.At, c.To, c.Name, errorNames[err])
	}
	return id
}

func (s site) dir(at int, name string) int {
	s.t.Helper()
	return s.do(vfs.Change{Kind: 0, At: at, Name: name, A: 0755})
}

func (s site) file(at int, name string) int {
	s.t.Helper()
	return s.do(vfs.Change{Kind: 1, At: at, Name: name, A: 0777})
}

func (s site) name(at int, name string, to int) {
	s.t.Helper()
	s.do(vfs.Change{Kind: 2, At: at, Name: name, To: to})
}

func (s site) link(at int, name, text string) int {
	s.t.Helper()
	return s.do(vfs.Change{Kind: 3, At: at, Name: name, Text: text})
}

func (s site) mode(to, mode int) {
	s.t.Helper()
	s.do(vfs.Change{Kind: 4, To: to, A: mode})
}

func (s site) owner(to, uid, gid int) {
	s.t.Helper()
	s.do(vfs.Change{Kind: 5, To: to, A: uid, B: gid})
}

func (s site) cover(to int) int {
	s.t.Helper()
	return s.do(vfs.Change{Kind: 7, To: to, A: 0755})
}

func (s site) unreadable(to int) {
	s.t.Helper()
	s.do(vfs.Change{Kind: 8, To: to})
}

// isShown holds what Shown answers against what it should.
func (s site) isShown(who api.Cred, id int, all bool, want ...api.Entry) {
	s.t.Helper()
	if got, err := Shown(s.f, who, id, all); !slices.Equal(got, want) || err != api.OK {
		s.t.Errorf("Shown by %v of %d, all %t: %v, %s, want %v", who, id, all, got, errorNames[err], want)
	}
}

// notShown holds what Shown answers against an error.
func (s site) notShown(who api.Cred, id int, want api.Errno) {
	s.t.Helper()
	for _, all := range []bool{false, true} {
		if got, err := Shown(s.f, who, id, all); len(got) > 0 || err != want {
			s.t.Errorf("Shown by %v of %d, all %t: %v, %s, want %s", who, id, all, got, errorNames[err], errorNames[want])
		}
	}
}

// entry is a name of a node.
func entry(name string, id int) api.Entry {
	return api.Entry{Name: name, Id: id}
}

// met is a visit of one that isn't its directory's last.
func met(id, depth int, name, base string) Visit {
	return Visit{Id: id, Depth: depth, Name: name, Base: base}
}

// last is a visit of its directory's last.
func last(id, depth int, name, base string) Visit {
	return Visit{Id: id, Depth: depth, Name: name, Base: base, Last: true}
}

// first is a walk's first visit.
func first(id int, name string) Visit {
	return last(id, 0, name, name)
}

// over is the visit behind a directory's walk.
func over(v Visit) Visit {
	v.Over = true
	return v
}

// failed is the visit of one that can't be gone through.
func failed(v Visit, err api.Errno) Visit {
	v.Err = err
	return v
}

// isWalk holds what Walk answers against what it should.
func (s site) isWalk(who api.Cred, id int, name string, most int, all bool, want ...Visit) {
	s.t.Helper()
	got := Walk(s.f, who, id, name, most, all)
	if slices.Equal(got, want) {
		return
	}
	s.t.Errorf("Walk by %v of %d as %.20q, at most %d, all %t: %s", who, id, name, most, all, difference(got, want))
}

// isWalkOfAll holds what Walk answers of any depth, with and without names
// that begin with a point, against what it should.
func (s site) isWalkOfAll(who api.Cred, id int, name string, want ...Visit) {
	s.t.Helper()
	for _, all := range []bool{false, true} {
		s.isWalk(who, id, name, -1, all, want...)
	}
}

// difference tells where two walks part.
func difference(got, want []Visit) string {
	at := 0
	for at < min(len(got), len(want)) && got[at] == want[at] {
		at++
	}
	return fmt.Sprintf("%d visits, want %d; from %d on:%s\nwant:%s", len(got), len(want), at, told(got[at:]), told(want[at:]))
}

// told writes a few visits.
func told(l []Visit) string {
	var out strings.Builder
	for i, v := range l {
		if i == 12 {
			out.WriteString("\n\t..")
			break
		}
		fmt.Fprintf(&out, "\n\t%d, depth %d, %s, %.20q", v.Id, v.Depth, short(v.Name), v.Base)
		if v.Last {
			out.WriteString(", last")
		}
		if v.Over {
			out.WriteString(", over")
		}
		if v.Err != api.OK {
			out.WriteString(", " + errorNames[v.Err])
		}
	}
	return out.String()
}

// short writes a text, cut.
func short(text string) string {
	if len(text) > 60 {
		return fmt.Sprintf("%.60q.. of %d bytes", text, len(text))
	}
	return fmt.Sprintf("%q", text)
}
