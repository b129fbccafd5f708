package tool

import (
	"strings"

	"domesday/api"
	"domesday/digits"
	"domesday/roam"
)

// What stands ahead of a name: for each directory that it stands in, if
// something follows that one, and if nothing does; and for itself, likewise.
const (
	bar        = "\u2502\u00a0\u00a0 "
	blank      = "    "
	branch     = "\u251c\u2500\u2500 "
	lastBranch = "\u2514\u2500\u2500 "
)

// drawing is a tree under way.
type drawing struct {
	*run
	most int
	// dirsAlone tells if nothing else is asked for.
	dirsAlone bool
	// pieces are what the name that was written last at each depth puts ahead of
	// all those below it; an operand's puts nothing there.
	pieces        [api.MaxDepth + 1]string
	dirs, notDirs int64
}

// tree writes each operand with all below it, and how much that was.
func (r *run) tree() {
	d := drawing{run: r, most: int(r.number("L", -1)), dirsAlone: r.has('d')}
	for _, operand := range r.operands {
		d.draw(operand)
	}
	d.sum()
}

// draw writes an operand with all below it.
func (d *drawing) draw(operand string) {
	start, ok := d.walk(operand, false)
	if !ok {
		return
	}
	for _, v := range roam.Walk(d.f, d.who, start.Id, operand, d.most, d.has('a')) {
		switch {
		case v.Err != api.OK:
			d.fail(v.Name, v.Err)
		case !v.Over:
			d.meet(v)
		}
	}
}

// meet writes what is met, if it is asked for.
func (d *drawing) meet(v roam.Visit) {
	node, _ := d.f.Node(v.Id)
	isDir := node.Kind == api.Dir
	if !isDir && d.dirsAlone {
		return
	}
	d.rows(d.ahead(v) + v.Base)
	d.count(v.Depth, isDir)
}

// ahead is what stands ahead of a name. It notes what stands ahead of those
// below it.
func (d *drawing) ahead(v roam.Visit) string {
	if v.Depth == 0 {
		return ""
	}
	above := strings.Join(d.pieces[:v.Depth], "")
	if v.Last {
		d.pieces[v.Depth] = blank
		return above + lastBranch
	}
	d.pieces[v.Depth] = bar
	return above + branch
}

// count counts what was written below an operand.
func (d *drawing) count(depth int, isDir bool) {
	switch {
	case depth == 0:
	case isDir:
		d.dirs++
	default:
		d.notDirs++
	}
}

// sum writes how much was written.
func (d *drawing) sum() {
	told := digits.Dec(d.dirs) + " directories"
	if !d.dirsAlone {
		told += ", " + digits.Dec(d.notDirs) + " files"
	}
	d.rows("", told)
}
