package vfs

import (
	"strings"

	"domesday/api"
)

// The kinds of changes.
const (
	makeDir = iota
	makeFile
	addName
	makeLink
	setMode
	setOwner
	setTime
	mount
	spoil
)

// modeBits are those of a mode that are kept.
const modeBits = 0o7777

// page is how many bytes a file's blocks are taken for at one time.
const page = 4096

// Do makes the change, and tells the number of the node that it made.
func (f *FS) Do(c Change) (int, api.Errno) {
	if err := f.refusal(c); err != api.OK {
		return 0, err
	}
	return f.carryOut(c), api.OK
}

// refusal tells what is wrong with a change.
func (f *FS) refusal(c Change) api.Errno {
	err := api.ErrArg
	switch c.Kind {
	case makeDir, makeFile, addName, makeLink:
		err = f.wrongEntry(c)
	case setMode, setOwner, setTime, mount, spoil:
		err = f.wrongNode(c)
	}
	if err == api.OK && makesNode(c.Kind) && len(f.nodes) >= api.MaxNodes {
		return api.ErrMany
	}
	return err
}

// makesNode tells if changes of that kind make nodes.
func makesNode(kind int) bool {
	switch kind {
	case makeDir, makeFile, makeLink, mount:
		return true
	}
	return false
}

// wrongEntry tells what is wrong with a change that makes an entry.
func (f *FS) wrongEntry(c Change) api.Errno {
	switch {
	case !f.has(c.At):
		return api.ErrNoEnt
	case !f.isDir(c.At):
		return api.ErrNotDir
	case !Good(c.Name):
		return api.ErrArg
	case f.hasEntry(c.At, c.Name):
		return api.ErrExists
	}
	switch {
	case c.Kind == addName:
		return f.wrongShare(c)
	case c.Kind == makeFile && c.N < 0:
		return api.ErrArg
	case c.Kind == makeLink && !goodText(c.Text):
		return api.ErrArg
	}
	return api.OK
}

// wrongShare tells what is wrong with the node that shall have one more name.
func (f *FS) wrongShare(c Change) api.Errno {
	switch {
	case !f.has(c.To):
		return api.ErrNoEnt
	case f.isDir(c.To), f.nodes[c.To].known.Dev != f.nodes[c.At].known.Dev:
		return api.ErrArg
	}
	return api.OK
}

// wrongNode tells what is wrong with a change of a node that there is.
func (f *FS) wrongNode(c Change) api.Errno {
	switch {
	case !f.has(c.To):
		return api.ErrNoEnt
	case c.Kind == setTime && (c.A < 0 || c.A >= len(api.Node{}.Times)):
		return api.ErrArg
	case c.Kind == mount && !f.isDir(c.To):
		return api.ErrNotDir
	case c.Kind == mount && (f.Over(c.To) != c.To || f.isFirst(c.To)):
		return api.ErrArg
	}
	return api.OK
}

// goodText tells if a text may be a link's.
func goodText(text string) bool {
	return len(text) >= 1 && len(text) <= api.MaxPath && strings.IndexByte(text, 0) < 0
}

// hasEntry tells if a directory has an entry of that name.
func (f *FS) hasEntry(dir int, name string) bool {
	for _, e := range f.nodes[dir].entries {
		if e.Name == name {
			return true
		}
	}
	return false
}

// carryOut makes a change with which nothing is wrong.
func (f *FS) carryOut(c Change) int {
	switch c.Kind {
	case makeDir:
		return f.build(c, directory(c.A, c.At))
	case makeFile:
		return f.build(c, file(c.A, c.N))
	case addName:
		f.enter(c.At, c.Name, c.To)
	case makeLink:
		return f.build(c, link(c.Text))
	case mount:
		return f.cover(c.To, c.A)
	default:
		f.nodes[c.To].set(c)
	}
	return 0
}

// set gives a node what it shall have.
func (n *node) set(c Change) {
	switch c.Kind {
	case setMode:
		n.known.Mode = c.A & modeBits
	case setOwner:
		n.known.Uid, n.known.Gid = max(c.A, 0), max(c.B, 0)
	case setTime:
		n.known.Times[c.A] = c.N
	case spoil:
		n.unreadable = true
	}
}

// build adds a node on the device of the directory in which it gets its name.
func (f *FS) build(c Change, n node) int {
	id := f.add(f.nodes[c.At].known.Dev, n)
	f.enter(c.At, c.Name, id)
	return id
}

// cover mounts a new device upon a directory.
func (f *FS) cover(dir, mode int) int {
	first := f.add(len(f.Devices())+1, directory(mode, f.nodes[dir].up))
	f.nodes[dir].over = first
	return first
}

// add gives a node its numbers, and tells the one by which it is found.
func (f *FS) add(dev int, n node) int {
	id := len(f.nodes)
	n.known.Dev, n.known.Ino = dev, 1
	for _, other := range f.nodes {
		if other.known.Dev == dev {
			n.known.Ino++
		}
	}
	n.over = id
	f.nodes = append(f.nodes, n)
	return id
}

// enter gives a node a name in a directory. What counts it as a link is the
// node itself, but of a directory the one in which it stands.
func (f *FS) enter(dir int, name string, id int) {
	at := &f.nodes[dir]
	at.entries = append(at.entries, api.Entry{Name: name, Id: id})
	if f.isDir(id) {
		at.known.Links++
	} else {
		f.nodes[id].known.Links++
	}
}

// directory is a directory that stands in another one, without its numbers.
func directory(mode, up int) node {
	known := api.Node{Kind: api.Dir, Mode: mode & modeBits, Size: 4096, Blocks: 8, Links: 2}
	return node{known: known, up: up}
}

// file is a file, without its numbers and names.
func file(mode int, size int64) node {
	pages := size / page
	if size%page > 0 {
		pages++
	}
	return node{known: api.Node{Kind: api.File, Mode: mode & modeBits, Size: size, Blocks: 8 * pages}, up: none}
}

// link is a link, without its numbers and names.
func link(text string) node {
	return node{known: api.Node{Kind: api.Link, Mode: 0o777, Size: int64(len(text)), Target: text}, up: none}
}
