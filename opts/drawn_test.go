package opts

import (
	"math/rand"
	"slices"
	"strings"
	"testing"

	"domesday/api"
)

// The answers worked out otherwise: the argument at the beginning is told with
// how many arguments it takes, and what is left is told anew.

func readAnew(specs []Spec, args []string) answer {
	if len(args) == 0 {
		return answer{}
	}
	head, taken := headAnew(specs, args)
	if head.err != api.OK {
		return head
	}
	rest := readAnew(specs, args[taken:])
	if rest.err != api.OK {
		return rest
	}
	rest.options = slices.Concat(head.options, rest.options)
	rest.operands = slices.Concat(head.operands, rest.operands)
	return rest
}

// headAnew tells what the first argument means, and how many it takes.
func headAnew(specs []Spec, args []string) (answer, int) {
	arg := args[0]
	dashes := len(arg) - len(strings.TrimLeft(arg, "-"))
	wrong := answer{blame: arg, err: api.ErrOption}
	switch {
	case dashes == 2 && len(arg) == 2:
		return answer{operands: args[1:]}, len(args)
	case dashes == 0 || len(arg) == 1:
		return answer{operands: args[:1]}, 1
	case dashes == 1:
		options, more := lettersAnew(specs, arg[1:], args[1:])
		if options == nil {
			return wrong, 0
		}
		return answer{options: options}, 1 + more
	}
	parts := strings.SplitN(arg, "=", 2)
	meant := namedAnew(specs, strings.TrimPrefix(parts[0], "--"))
	if len(meant) != 1 || len(parts) == 2 && !meant[0].Value {
		return wrong, 0
	}
	if len(parts) == 2 || !meant[0].Value {
		return answer{options: []Option{{meant[0].Letter, strings.Join(parts[1:], "")}}}, 1
	}
	if len(args) == 1 {
		return wrong, 0
	}
	return answer{options: []Option{{meant[0].Letter, args[1]}}}, 2
}

// lettersAnew tells the options of letters, and how many of the arguments
// behind them they take; none of what is wrong.
func lettersAnew(specs []Spec, letters string, behind []string) ([]Option, int) {
	if letters == "" {
		return []Option{}, 0
	}
	own := kept(specs, func(s Spec) bool { return s.Letter == letters[0] })
	if len(own) == 0 || own[0].Value && len(letters) == 1 && len(behind) == 0 {
		return nil, 0
	}
	option := Option{Letter: letters[0]}
	if !own[0].Value {
		options, more := lettersAnew(specs, letters[1:], behind)
		if options == nil {
			return nil, 0
		}
		return append([]Option{option}, options...), more
	}
	if len(letters) > 1 {
		option.Value = letters[1:]
		return []Option{option}, 0
	}
	option.Value = behind[0]
	return []Option{option}, 1
}

// namedAnew tells all specs that a name may mean.
func namedAnew(specs []Spec, name string) []Spec {
	named := kept(specs, func(s Spec) bool { return len(s.Long) > 0 })
	whole := kept(named, func(s Spec) bool { return s.Long == name })
	if len(whole) > 0 {
		return whole[:1]
	}
	return kept(named, func(s Spec) bool { return strings.Index(s.Long, name) == 0 })
}

func kept(specs []Spec, keep func(s Spec) bool) []Spec {
	return slices.DeleteFunc(slices.Clone(specs), func(s Spec) bool { return !keep(s) })
}

func isAnew(t *testing.T, specs []Spec, args []string) {
	t.Helper()
	if got, want := read(specs, args), readAnew(specs, args); !got.equals(want) {
		t.Fatalf("Read(%+v, %q) = %+v, want %+v", specs, args, got, want)
	}
}

// specSets are specs that differ in all that matters.
var specSets = [][]Spec{
	nil,
	{{'a', "", false}, {'w', "", true}},
	{{'a', "a", false}, {'w', "w", true}},
	{{'w', "aw", true}},
	{{'a', "aw", false}},
	{{'a', "aa", false}, {'w', "aaw", true}, {'-', "", false}},
	{{'w', "aaw", true}, {'a', "aa", false}, {'=', "", true}},
	{{'a', "aw", false}, {'a', "aw", true}, {'-', "-a", true}},
	{{'w', "wa", true}, {'w', "wa", false}, {'=', "", false}, {'a', "", false}},
	{{'a', "wa", false}, {'w', "w", false}, {'-', "w=a", true}, {'=', "-", false}},
	someSpecs,
}

// shortTexts are all texts of at most so many of the letters.
func shortTexts(letters string, most int) []string {
	texts, last := []string{""}, []string{""}
	for range most {
		var longer []string
		for _, text := range last {
			for _, letter := range strings.Split(letters, "") {
				longer = append(longer, text+letter)
			}
		}
		texts, last = append(texts, longer...), longer
	}
	return texts
}

// P13.1
func TestReadOfAllShortArguments(t *testing.T) {
	for _, specs := range specSets {
		for _, arg := range shortTexts("-=aw", 6) {
			isAnew(t, specs, with(arg))
			isAnew(t, specs, with(arg, "-a"))
			isAnew(t, specs, with("-w", arg, "--", arg))
		}
	}
}

// somePieces are arguments of each kind.
var somePieces = []string{
	"", "x", "-", "--", "-a", "-w", "-aw", "-w5", "-z", "-a-", "--a", "--w", "--aw", "--aw=", "--wa=x", "--=x", "--all", "--max",
}

// P13.1
func TestReadOfAllFewArguments(t *testing.T) {
	for _, specs := range specSets {
		for _, a := range somePieces {
			for _, b := range somePieces {
				isAnew(t, specs, with(a, b))
				for _, c := range somePieces {
					isAnew(t, specs, with(a, b, c))
				}
			}
		}
	}
}

func drawnText(r *rand.Rand, letters string, most int) string {
	text := make([]byte, r.Intn(most+1))
	for i := range text {
		text[i] = letters[r.Intn(len(letters))]
	}
	return string(text)
}

func drawnSpecs(r *rand.Rand) []Spec {
	specs := make([]Spec, r.Intn(7))
	for i := range specs {
		specs[i] = Spec{"abcw-=\x00\xff"[r.Intn(8)], drawnText(r, "abw-", 3), r.Intn(2) == 0}
	}
	return specs
}

func drawnArgs(r *rand.Rand) []string {
	args := make([]string, r.Intn(6))
	for i := range args {
		args[i] = []string{"", "-", "-", "--", "--"}[r.Intn(5)] + drawnText(r, "aabbcw-=\x00\xff", 4)
	}
	return args
}

// P13.1
func TestDrawnArguments(t *testing.T) {
	r := rand.New(rand.NewSource(13))
	well := 0
	for range 200000 {
		specs, args := drawnSpecs(r), drawnArgs(r)
		isAnew(t, specs, args)
		if _, _, _, err := Read(specs, args); err == api.OK && len(args) > 1 {
			well++
		}
	}
	if well < 10000 {
		t.Errorf("only %d are well", well)
	}
}

// bit is arguments that take nothing from the next ones, with what they mean
// to someSpecs.
type bit struct {
	args []string
	want answer
}

// someBits are bits that are well, none of which ends the options.
func someBits() []bit {
	options := func(args []string, short ...string) bit {
		return bit{args, answer{options: given(short...)}}
	}
	operands := func(args ...string) bit {
		return bit{args, answer{operands: args}}
	}
	return []bit{
		{},
		operands("x"), operands(""), operands("-"), operands("x", "-", ""),
		options(with("-a"), "a"),
		options(with("-la"), "l", "a"),
		options(with("-w", "5"), "w=5"),
		options(with("-w", "--"), "w=--"),
		options(with("-w", "-w"), "w=-w"),
		options(with("-aw", ""), "a", "w="),
		options(with("-lw5"), "l", "w=5"),
		options(with("--all"), "a"),
		options(with("--rev"), "r"),
		options(with("--width", "--"), "w=--"),
		options(with("--width", "-a"), "w=-a"),
		options(with("--max-depth="), "d="),
		{with("-a", "x", "--max"), answer{options: given("a", "m"), operands: with("x")}},
	}
}

// wrongBits are bits one argument of which is to blame.
func wrongBits() []bit {
	wrong := func(blame string, args ...string) bit {
		return bit{args, answer{blame: blame, err: api.ErrOption}}
	}
	return []bit{
		wrong("-z", "-z"),
		wrong("-az", "-l", "x", "-az", "-y"),
		wrong("--none", "--none"),
		wrong("--g", "-w", "-z", "--g"),
		wrong("--all=", "--all=", "--none"),
	}
}

// ahead tells what two bits are that follow one another.
func ahead(a, b bit) bit {
	both := bit{args: slices.Concat(a.args, b.args)}
	if a.want.err != api.OK {
		both.want = a.want
		return both
	}
	if b.want.err != api.OK {
		both.want = b.want
		return both
	}
	both.want.options = slices.Concat(a.want.options, b.want.options)
	both.want.operands = slices.Concat(a.want.operands, b.want.operands)
	return both
}

func (b bit) isTold(t *testing.T) {
	t.Helper()
	if got := read(someSpecs, b.args); !got.equals(b.want) {
		t.Fatalf("Read(%q) = %+v, want %+v", b.args, got, b.want)
	}
}

// P13.3: all bits, one, two and three of them.
func TestBitsAreReadAsAWhole(t *testing.T) {
	all := append(someBits(), wrongBits()...)
	for _, a := range all {
		a.isTold(t)
		for _, b := range all {
			two := ahead(a, b)
			two.isTold(t)
			for _, c := range all {
				ahead(two, c).isTold(t)
			}
		}
	}
}

// P13.3: behind the end of the options every argument is an operand.
func TestBitsBehindTheEnd(t *testing.T) {
	all := append(someBits(), wrongBits()...)
	for _, a := range someBits() {
		for _, b := range all {
			end := bit{append(with("--"), b.args...), answer{operands: b.args}}
			end.isTold(t)
			ahead(a, end).isTold(t)
			more := slices.Concat(end.args, with("--"), a.args)
			ahead(a, bit{more, answer{operands: more[1:]}}).isTold(t)
		}
	}
}

// P13.3: many bits, parted wherever no value is taken from the next one.
func TestManyBitsInAllParts(t *testing.T) {
	r := rand.New(rand.NewSource(133))
	well, wrong := someBits(), wrongBits()
	for range 300 {
		bits := make([]bit, r.Intn(30))
		for i := range bits {
			bits[i] = well[r.Intn(len(well))]
		}
		if len(bits) > 0 && r.Intn(4) == 0 {
			bits[r.Intn(len(bits))] = wrong[r.Intn(len(wrong))]
		}
		for at := range len(bits) + 1 {
			left, right := joined(bits[:at]), joined(bits[at:])
			left.isTold(t)
			right.isTold(t)
			ahead(left, right).isTold(t)
		}
	}
}

func joined(bits []bit) bit {
	var whole bit
	for _, b := range bits {
		whole = ahead(whole, b)
	}
	return whole
}

// P13.3: the letters of one argument, parted into several.
func TestLettersInBits(t *testing.T) {
	for _, letters := range shortTexts("alr", 5) {
		if letters == "" {
			continue
		}
		whole := read(someSpecs, with("-"+letters, "x"))
		valued := read(someSpecs, with("-"+letters+"w5", "x"))
		for at := 1; at < len(letters); at++ {
			parts := with("-"+letters[:at], "-"+letters[at:], "x")
			if got := read(someSpecs, parts); !got.equals(whole) {
				t.Errorf("Read(%q) = %+v, want %+v", parts, got, whole)
			}
			parts = with("-"+letters[:at], "-"+letters[at:]+"w", "5", "x")
			if got := read(someSpecs, parts); !got.equals(valued) {
				t.Errorf("Read(%q) = %+v, want %+v", parts, got, valued)
			}
		}
		if len(whole.options) != len(letters) || len(valued.options) != len(letters)+1 {
			t.Errorf("%q are the options %v", letters, whole.options)
		}
	}
}
