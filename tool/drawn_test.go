package tool

import (
	"fmt"
	"math"
	"math/rand"
	"slices"
	"strings"
	"testing"

	"domesday/api"
	"domesday/digits"
	"domesday/facts"
	"domesday/list"
	"domesday/opts"
	"domesday/path"
	"domesday/perm"
	"domesday/quote"
	"domesday/real"
	"domesday/usage"
	"domesday/vfs"
)

// pick draws one of a list.
func pick[T any](r *rand.Rand, l ...T) T {
	return l[r.Intn(len(l))]
}

// names are those that are drawn.
var names = []string{"a", "b", "c", "d", "e10", "e9", ".h", ".i", "-", "-l", "%n", "\xff", "\u3042", "z z", "it's", "n\nl", `"`, "x.c", strings.Repeat("w", 255)}

// world is a site whose file system is drawn, and the paths by which its
// entries were made.
type world struct {
	site
	paths []string
}

// drawn is a world that is drawn by so many changes of all kinds.
func drawn(t *testing.T, r *rand.Rand, changes int) world {
	w := world{site: newSite(t), paths: []string{"/"}}
	of := map[int]string{0: ""}
	for range changes {
		c := vfs.Change{
			Kind: pick(r, 0, 0, 0, 1, 1, 1, 1, 2, 2, 3, 3, 3, 4, 5, 5, 6, 6, 7, 8), At: r.Intn(w.f.Count()), To: r.Intn(w.f.Count()),
			A: pick(r, 0755, 0700, 0111, 0444, r.Intn(010000)), B: r.Intn(3), Name: pick(r, names...), Text: w.drawPath(r),
			N: pick[int64](r, 0, 0, 1, 4096, 4097, 1<<20, r.Int63n(100000), r.Int63n(1e12), math.MaxInt64),
		}
		if at := c.At; r.Intn(3) > 0 {
			c.At = w.f.Over(at)
		}
		switch c.Kind {
		case 4:
			c.A |= pick(r, 0, 0555, 0777)
		case 5:
			c.A = r.Intn(3)
		case 6:
			c.A, c.N = r.Intn(3), pick(r, c.N, -c.N, math.MinInt64, 1e9, 1e9+1, 1e9-20000000)
		case 7, 8:
			if r.Intn(3) > 0 || c.To == 0 {
				continue
			}
		}
		id, err := w.f.Do(c)
		if err != api.OK || c.Kind > 3 && c.Kind != 7 {
			continue
		}
		if c.Kind == 7 {
			of[id] = of[c.To]
			continue
		}
		w.paths = append(w.paths, of[c.At]+"/"+c.Name)
		if c.Kind == 0 {
			of[id] = of[c.At] + "/" + c.Name
		}
	}
	return w
}

// drawPath draws a path, mostly one that leads somewhere.
func (w *world) drawPath(r *rand.Rand) string {
	at := pick(r, w.paths...)
	switch r.Intn(12) {
	case 0:
		return pick(r, ".", "..", "/", "//", "./..", "gone", "-", "x y", strings.Repeat("x", 256), strings.Repeat("a/../", 819)+"a", strings.Repeat("/", 4097))
	case 1:
		return pick(r, names...)
	case 2:
		return at + "/"
	case 3:
		return at + "/" + pick(r, ".", "..", "gone", pick(r, names...))
	case 4:
		return strings.ReplaceAll(at, "/", pick(r, "//", "/./"))
	case 5:
		return at + "/../" + pick(r, names...)
	}
	if at = strings.TrimPrefix(at, pick(r, "/", "")); at != "" {
		return at
	}
	return "."
}

// drawEnv draws who asks, how wide, and when.
func (w *world) drawEnv(r *rand.Rand) {
	w.who = api.Cred{Uid: pick(r, 0, 0, 0, 1, 2, 3, -1), Gid: pick(r, 0, 1, 2, 3)}
	w.env = Env{
		Width:  pick(r, 0, -1, 1, 10, 20, 40, 80, 80, r.Intn(300), math.MaxInt, math.MinInt),
		Now:    pick(r, 0, 1, -1, 1e9, 1e9+100, r.Int63(), -r.Int63(), math.MaxInt64, math.MinInt64),
		Offset: pick(r, 0, 0, 3600, -3600, 19800, 86400, -86400, 86401, math.MaxInt, math.MinInt, r.Intn(86400)),
	}
}

// drawArgs draws a run's arguments, a few of which may be wrong.
func (w *world) drawArgs(r *rand.Rand) []string {
	name := pick(r, toolNames...)
	l := letters[name]
	args := append(make([]string, 0, 20), name)
	for range r.Intn(4) {
		word := "-"
		for range 1 + r.Intn(3) {
			word += string(pick(r, []byte(l[0]+"aL")...))
			if r.Intn(20) > 0 && !strings.Contains(l[0], word[len(word)-1:]) {
				word = word[:len(word)-1]
			}
		}
		args = append(args, word)
	}
	if valued := l[1] + l[2]; valued != "" && r.Intn(3) == 0 {
		value := pick(r, "0", "1", "2", "3", "10", "40", "512", "1000", "65535")
		if l[2] != "" || r.Intn(15) == 0 {
			value = pick(r, "%n", "%N %i", "", "x%s%%q", "%a %A %b\n", "-1", "65536")
		}
		letter := string(pick(r, []byte(valued)...))
		args = append(args, pick(r, []string{"-" + letter, value}, []string{"-" + letter + value})...)
	}
	if long := longs[name]; long != nil && r.Intn(6) == 0 {
		args = append(args, "--"+pick(r, long...)[1:pick(r, 2, 4)]+pick(r, "", "", "", "=2"))
	}
	if r.Intn(30) == 0 {
		args = append(args, pick(r, "--x", "-Z", "--no", "-9", "--=", "-\xff", "---"))
	}
	if r.Intn(4) == 0 {
		args = append(args, "--")
	}
	for range r.Intn(5) {
		args = append(args, w.drawPath(r))
	}
	return args
}

// oracle works out anew what a run should come to.
type oracle struct {
	site
	name     string
	options  []opts.Option
	operands []string
	result
	dirs, others int
}

// anew is what a run of these arguments should come to.
func anew(s site, args []string) result {
	var specs []opts.Spec
	name := args[0]
	for at, l := range letters[name] {
		for _, b := range []byte(l) {
			spec := opts.Spec{Letter: b, Value: at > 0}
			for _, long := range longs[name] {
				if long[0] == b {
					spec.Long = long[1:]
				}
			}
			specs = append(specs, spec)
		}
	}
	options, operands, blamed, err := opts.Read(specs, args[1:])
	for _, o := range options {
		n, ok := digits.Read(o.Value)
		if err == api.OK && strings.IndexByte(letters[name][1], o.Letter) >= 0 && !(ok && n >= 0 && n < 1<<16) {
			blamed, err = o.Value, api.ErrArg
		}
	}
	if err != api.OK {
		return result{"", name + ": invalid argument " + quote.Quote(2, blamed) + "\n", 2}
	}
	o := oracle{site: s, name: name, options: options, operands: operands}
	o.work()
	return o.result
}

// work does what the tool should.
func (o *oracle) work() {
	if len(o.operands) == 0 {
		switch o.name {
		case "ls", "du", "tree":
			o.operands = []string{"."}
		case "stat", "readlink", "realpath":
			o.result = result{"", o.name + ": missing operand\n", 2}
			return
		}
	}
	switch o.name {
	case "ls":
		o.ls()
	case "du":
		o.du()
	case "df":
		for _, operand := range o.operands {
			o.walk(operand, true)
		}
		o.say(facts.Table(facts.Rows(o.f, o.value('B', 0)))...)
	case "tree":
		o.tree()
	default:
		o.paths()
	}
}

func (o *oracle) say(rows ...string) {
	for _, row := range rows {
		o.out += row + "\n"
	}
}

func (o *oracle) fail(path string, err api.Errno) {
	o.status = 1
	if o.name == "realpath" && o.options != nil {
		return
	}
	message, ok := messages[err]
	if !ok {
		message = "Invalid argument"
	}
	o.err += fmt.Sprintf("%s: '%s': %s\n", o.name, strings.ReplaceAll(path, "'", `'\''`), message)
}

// value is the last number of a letter.
func (o *oracle) value(letter byte, instead int64) int64 {
	for _, option := range o.options {
		if option.Letter == letter {
			instead, _ = digits.Read(option.Value)
		}
	}
	return instead
}

func (o *oracle) given(letter byte) bool {
	return slices.ContainsFunc(o.options, func(option opts.Option) bool { return option.Letter == letter })
}

// walk tells where an operand comes to, or -1.
func (o *oracle) walk(operand string, follow bool) int {
	place, err := path.Walk(o.f, o.who, operand, follow)
	if err != api.OK {
		o.fail(operand, err)
		return -1
	}
	return place.Id
}

// kind tells what a node is.
func (o *oracle) kind(id int) int {
	node, _ := o.f.Node(id)
	return node.Kind
}

// shown is what is shown of a directory.
func (o *oracle) shown(id int) ([]api.Entry, api.Errno) {
	node, _ := o.f.Node(id)
	if !perm.May(node, o.who, 5) {
		return nil, api.ErrAccess
	}
	l, err := o.f.List(id)
	slices.SortFunc(l, func(a, b api.Entry) int { return strings.Compare(a.Name, b.Name) })
	return slices.DeleteFunc(l, func(e api.Entry) bool { return e.Name[0] == '.' && !o.given('a') }), err
}

// how is how ls should write.
func (o *oracle) how() list.How {
	how := list.How{Most: o.env.Width, Clock: 1, Now: o.env.Now, Offset: o.env.Offset}
	for _, option := range o.options {
		switch b := option.Letter; b {
		case 'l', 'C', 'x', 'm', '1':
			how.Form = map[byte]int{'1': 0, 'C': 1, 'x': 2, 'm': 3, 'l': 4}[b]
		case 'S', 't', 'X', 'v', 'U':
			how.Order = map[byte]int{'S': 1, 't': 2, 'X': 3, 'v': 4, 'U': -1}[b]
		case 'u':
			how.Clock = 0
		case 'c':
			how.Clock = 2
		case 'Q':
			how.Quote = 4
		}
	}
	how.Reverse, how.Dirs, how.Mark, how.Inode, how.Blocks = o.given('r'), o.given('g'), o.given('F'), o.given('i'), o.given('s')
	how.Most = int(o.value('w', int64(how.Most)))
	return how
}

func (o *oracle) ls() {
	how := o.how()
	var alone []api.Entry
	dirs := map[string]int{}
	var order []string
	for _, operand := range o.operands {
		id := o.walk(operand, how.Form != 4 && !o.given('d'))
		switch {
		case id < 0:
		case o.given('d') || o.kind(id) != api.Dir:
			alone = append(alone, api.Entry{Name: operand, Id: id})
		default:
			dirs[operand] = id
			order = append(order, operand)
		}
	}
	o.say(list.Rows(o.f, alone, how)...)
	slices.Sort(order)
	for _, operand := range order {
		if len(o.operands) > 1 && o.out != "" {
			o.say("")
		}
		if len(o.operands) > 1 {
			o.say(operand + ":")
		}
		l, err := o.shown(dirs[operand])
		if err != api.OK {
			o.fail(operand, err)
			continue
		}
		if how.Blocks || how.Form == 4 {
			o.say(fmt.Sprint("total ", list.Total(o.f, l)))
		}
		o.say(list.Rows(o.f, l, how)...)
	}
}

func (o *oracle) du() {
	var starts []usage.Start
	for _, operand := range o.operands {
		if id := o.walk(operand, false); id >= 0 {
			starts = append(starts, usage.Start{Id: id, Name: operand})
		}
	}
	how := usage.How{Most: -1, All: o.given('a'), Each: o.given('l'), Unit: o.value('B', 1024)}
	for _, option := range o.options {
		switch option.Letter {
		case 's':
			how.Most = 0
		case 'd':
			n, _ := digits.Read(option.Value)
			how.Most = int(n)
		}
	}
	lines, _ := usage.Sum(o.f, o.who, starts, how)
	for _, l := range lines {
		if l.Err != api.OK {
			o.fail(l.Name, l.Err)
		} else {
			o.say(fmt.Sprintf("%d\t%s", l.Units, l.Name))
		}
	}
}

func (o *oracle) tree() {
	for _, operand := range o.operands {
		if id := o.walk(operand, false); id >= 0 {
			if o.kind(id) == api.Dir || !o.given('d') {
				o.say(operand)
			}
			o.grow(id, operand, "", 0)
		}
	}
	if o.say(""); o.given('d') {
		o.say(fmt.Sprintf("%d directories", o.dirs))
	} else {
		o.say(fmt.Sprintf("%d directories, %d files", o.dirs, o.others))
	}
}

// grow writes what is below a node.
func (o *oracle) grow(id int, name, ahead string, depth int64) {
	if most := o.value('L', -1); o.kind(id) != api.Dir || depth == most || depth == 100 {
		return
	}
	l, err := o.shown(id)
	if err != api.OK {
		o.fail(name, err)
		return
	}
	for i, e := range l {
		own, below := lines("|-- ", "I.. ")[0], lines("I.. ")[0]
		if i == len(l)-1 {
			own, below = lines("L-- ")[0], "    "
		}
		at := o.f.Over(e.Id)
		if o.kind(at) == api.Dir {
			o.dirs++
			o.say(ahead + own + e.Name)
		} else if o.others++; !o.given('d') {
			o.say(ahead + own + e.Name)
		}
		whole := name + "/" + e.Name
		if strings.HasSuffix(name, "/") {
			whole = name + e.Name
		}
		o.grow(at, whole, ahead+below, depth+1)
	}
}

// paths tells a row of each operand.
func (o *oracle) paths() {
	format := "%n %F %s"
	for _, option := range o.options {
		if option.Letter == 'c' {
			format = option.Value
		}
	}
	for _, operand := range o.operands {
		var told string
		var err api.Errno
		switch {
		case o.name == "stat":
			if id := o.walk(operand, o.given('L')); id >= 0 {
				told, _ = facts.Format(o.f, id, operand, format)
				o.say(told)
			}
			continue
		case o.name == "realpath":
			told, _, err = real.Of(o.f, o.who, operand)
		case o.given('f'):
			told, err = real.Near(o.f, o.who, operand)
		default:
			told, err = real.Read(o.f, o.who, operand)
		}
		if err != api.OK {
			o.fail(operand, err)
		} else {
			o.say(told)
		}
	}
}

// P1: over many file systems, arguments, widths, clocks, offsets, and those
// who ask.
func TestDrawnRuns(t *testing.T) {
	met := map[string]int{}
	for seed := range 600 {
		r := rand.New(rand.NewSource(int64(seed)))
		w := drawn(t, r, 20+r.Intn(200))
		for range 100 {
			w.drawEnv(r)
			args := w.drawArgs(r)
			want := anew(w.site, args)
			w.is(want, args)
			met[fmt.Sprint(args[0], want.status)]++
			if want.out != "" && want.err != "" {
				met[args[0]+" in part"]++
			}
			if t.Failed() {
				t.Fatalf("in the file system %d", seed)
			}
		}
	}
	for _, name := range toolNames {
		for _, what := range []string{"0", "1", "2", " in part"} {
			if met[name+what] < 200 {
				t.Errorf("too little was met: of %s%s %d", name, what, met[name+what])
			}
		}
	}
}
