package tool

import (
	"domesday/api"
	"domesday/digits"
	"domesday/facts"
	"domesday/opts"
	"domesday/path"
	"domesday/real"
	"domesday/usage"
)

// What a tool does without operands.
const (
	// lacking: it tells that one is missing.
	lacking = iota
	// atPoint: it takes a point for one.
	atPoint
	// content: it needs none.
	content
)

// usualFormat is the one in which stat tells of a node.
const usualFormat = "%n %F %s"

// tool is a tool: its name, the letters of its options (those without a value,
// with a number, with a text), the long names of some of these, what it does
// without operands, and what it does with them.
type tool struct {
	name                  string
	flags, numbers, texts string
	longs                 []long
	alone                 int
	do                    func(*run)
}

// long is an option's long name.
type long struct {
	letter byte
	name   string
}

// tools is the list of all tools.
func tools() []tool {
	return []tool{
		{
			name: "ls", flags: "a" + forms + orders + "rucgFisQd", numbers: "w", alone: atPoint, do: (*run).ls,
			longs: []long{{'a', "all"}, {'r', "reverse"}, {'g', "group-directories-first"}, {'w', "width"}},
		},
		{
			name: "stat", flags: "L", texts: "c", alone: lacking, do: (*run).stat,
			longs: []long{{'c', "format"}, {'L', "dereference"}},
		},
		{
			name: "du", flags: "asl", numbers: "dB", alone: atPoint, do: (*run).du,
			longs: []long{{'a', "all"}, {'s', "summarize"}, {'d', "max-depth"}},
		},
		{
			name: "df", numbers: "B", alone: content, do: (*run).df,
		},
		{
			name: "tree", flags: "ad", numbers: "L", alone: atPoint, do: (*run).tree,
			longs: []long{{'a', "all"}},
		},
		{
			name: "readlink", flags: "f", alone: lacking, do: (*run).readlink,
			longs: []long{{'f', "canonicalize"}},
		},
		{
			name: "realpath", flags: "q", alone: lacking, do: (*run).realpath,
			longs: []long{{'q', "quiet"}},
		},
	}
}

// specs are the tool's options, as they are read.
func (t tool) specs() []opts.Spec {
	letters := t.flags + t.numbers + t.texts
	l := make([]opts.Spec, len(letters))
	for i := range letters {
		letter := letters[i]
		l[i] = opts.Spec{Letter: letter, Long: t.long(letter), Value: i >= len(t.flags)}
	}
	return l
}

// long tells a letter's long name, if it has one.
func (t tool) long(letter byte) string {
	for _, l := range t.longs {
		if l.letter == letter {
			return l.name
		}
	}
	return ""
}

// stat writes facts of each operand's node.
func (r *run) stat() {
	r.each(r.fact)
}

func (r *run) fact(operand string) (string, api.Errno) {
	place, err := path.Walk(r.f, r.who, operand, r.has('L'))
	if err != api.OK {
		return "", err
	}
	format := usualFormat
	if o, ok := opts.Last(r.options, "c"); ok {
		format = o.Value
	}
	return facts.Format(r.f, place.Id, operand, format)
}

// du writes how much there is in the operands and all below them. As all of
// them are counted together, all are walked to ahead of that.
func (r *run) du() {
	var starts []usage.Start
	for _, e := range r.walked(false) {
		starts = append(starts, usage.Start{Id: e.Id, Name: e.Name})
	}
	lines, _ := usage.Sum(r.f, r.who, starts, usage.How{
		All:  r.has('a'),
		Most: int(r.number("ds", -1)),
		Each: r.has('l'),
		Unit: r.number("B", 0),
	})
	for _, l := range lines {
		if l.Err != api.OK {
			r.fail(l.Name, l.Err)
			continue
		}
		r.rows(digits.Dec(l.Units) + "\t" + l.Name)
	}
}

// df writes what there is of each device. The operands choose none; what is
// wrong with them is told.
func (r *run) df() {
	r.walked(true)
	r.rows(facts.Table(facts.Rows(r.f, r.number("B", 0)))...)
}

// readlink writes each operand's text, or the real path of what it comes to,
// or would come to.
func (r *run) readlink() {
	if r.has('f') {
		r.each(r.near)
	} else {
		r.each(r.text)
	}
}

func (r *run) text(operand string) (string, api.Errno) {
	return real.Read(r.f, r.who, operand)
}

func (r *run) near(operand string) (string, api.Errno) {
	return real.Near(r.f, r.who, operand)
}

// realpath writes each operand's real path.
func (r *run) realpath() {
	r.quiet = r.has('q')
	r.each(r.realOf)
}

func (r *run) realOf(operand string) (string, api.Errno) {
	told, _, err := real.Of(r.f, r.who, operand)
	return told, err
}
