package tool

import (
	"slices"
	"strings"

	"domesday/api"
	"domesday/digits"
	"domesday/list"
	"domesday/opts"
	"domesday/roam"
)

const (
	// forms are the letters of layer 15's forms, each at its form's place.
	forms = "1Cxml"
	// formLong is the form that tells most.
	formLong = 4
	// orders are the letters of layer 10's orders from 1 on, and one more, whose
	// order is none, of which all stays as it stands.
	orders = "StXvU"
	// quoteC is the style of quotes of C.
	quoteC = 4
)

// The clocks, each at the place of the time that it tells.
const (
	clockRead = iota
	clockWritten
	clockChanged
)

// ls writes lists: of the operands that are no directories, and of what is in
// each of the others.
func (r *run) ls() {
	how := r.how()
	alone, dirs := r.parted(r.walked(how.Form != formLong && !r.has('d')))
	r.rows(list.Rows(r.f, alone, how)...)
	for _, dir := range dirs {
		r.list(dir, how)
	}
}

// how is how the options ask for lists.
func (r *run) how() list.How {
	how := list.How{
		Form:    max(r.chosen(forms), 0),
		Most:    int(r.number("w", int64(r.env.Width))),
		Order:   r.chosen(orders) + 1,
		Reverse: r.has('r'),
		Dirs:    r.has('g'),
		Clock:   r.clock(),
		Mark:    r.has('F'),
		Inode:   r.has('i'),
		Blocks:  r.has('s'),
		Now:     r.env.Now,
		Offset:  r.env.Offset,
	}
	if r.has('Q') {
		how.Quote = quoteC
	}
	return how
}

// clock is the one that the last option asks for.
func (r *run) clock() int {
	o, _ := opts.Last(r.options, "uc")
	switch o.Letter {
	case 'u':
		return clockRead
	case 'c':
		return clockChanged
	}
	return clockWritten
}

// parted parts what stands in a list of its own from the directories whose
// entries are listed, these in their order.
func (r *run) parted(found []api.Entry) (alone, dirs []api.Entry) {
	for _, e := range found {
		node, _ := r.f.Node(e.Id)
		if node.Kind == api.Dir && !r.has('d') {
			dirs = append(dirs, e)
		} else {
			alone = append(alone, e)
		}
	}
	slices.SortStableFunc(dirs, func(a, b api.Entry) int { return strings.Compare(a.Name, b.Name) })
	return alone, dirs
}

// list writes what is shown of a directory.
func (r *run) list(dir api.Entry, how list.How) {
	if len(r.operands) > 1 {
		r.head(dir.Name)
	}
	shown, err := roam.Shown(r.f, r.who, dir.Id, r.has('a'))
	if err != api.OK {
		r.fail(dir.Name, err)
		return
	}
	if how.Form == formLong || how.Blocks {
		r.rows("total " + digits.Dec(list.Total(r.f, shown)))
	}
	r.rows(list.Rows(r.f, shown, how)...)
}

// head writes the name ahead of a directory's list.
func (r *run) head(name string) {
	if r.out.Len() > 0 {
		r.rows("")
	}
	r.rows(name + ":")
}
