package opts

import (
	"slices"
	"strings"
	"testing"

	"domesday/api"
)

// P13.1: the document's example.
func TestExample(t *testing.T) {
	specs := []Spec{{'l', "", false}, {'a', "all", false}}
	tells(t, specs, with("-la", "x"), given("l", "a"), "x")
}

// P13.1
func TestReadOfNothing(t *testing.T) {
	for _, specs := range [][]Spec{nil, {}, someSpecs} {
		for _, args := range [][]string{nil, {}, make([]string, 0, 9)} {
			tells(t, specs, args, nil)
		}
	}
}

// P13.1: without specs there are operands alone.
func TestReadWithoutSpecs(t *testing.T) {
	for _, specs := range [][]Spec{nil, {}} {
		tells(t, specs, with("x", "", "-", "--", "-a", "--all"), nil, "x", "", "-", "-a", "--all")
		for _, arg := range []string{"-a", "-=", "-\x00", "-a=x", "--all", "--a=x", "--=", "--=x", "---"} {
			blames(t, specs, with(arg), arg)
			blames(t, specs, with("x", arg, "-b", "--", "y"), arg)
		}
	}
}

// P13.1
func TestReadOfOperands(t *testing.T) {
	for _, c := range []struct {
		args     []string
		options  []Option
		operands []string
	}{
		{with("x"), nil, with("x")},
		{with("x", "y", "x"), nil, with("x", "y", "x")},
		{with(""), nil, with("")},
		{with("", ""), nil, with("", "")},
		{with("", "-a", "", "-l", ""), given("a", "l"), with("", "", "")},
		{with("-"), nil, with("-")},
		{with("-", "-a"), given("a"), with("-")},
		{with("-a", "-"), given("a"), with("-")},
		{with("-", "-a", "-", "--all", "-"), given("a", "a"), with("-", "-", "-")},
		{with("x", "-a", "y", "--reverse", "z", "-l"), given("a", "r", "l"), with("x", "y", "z")},
		{with("-a", "x", "-l"), given("a", "l"), with("x")},
		{with("a", "=", "all", "w=5", " -a", "a-", "x--all", "\x00", "\xff"), nil,
			with("a", "=", "all", "w=5", " -a", "a-", "x--all", "\x00", "\xff")},
		{with("−a", "–all"), nil, with("−a", "–all")},
	} {
		tells(t, someSpecs, c.args, c.options, c.operands...)
	}
}

// P13.1
func TestReadOfTheEndOfOptions(t *testing.T) {
	for _, c := range []struct {
		args     []string
		options  []Option
		operands []string
	}{
		{with("--"), nil, nil},
		{with("--", "x"), nil, with("x")},
		{with("--", "-a"), nil, with("-a")},
		{with("--", "-a", "--all", "-", "", "-z", "--none", "--=", "-w"), nil,
			with("-a", "--all", "-", "", "-z", "--none", "--=", "-w")},
		{with("-a", "--", "-l"), given("a"), with("-l")},
		{with("-a", "x", "--", "-l", "y"), given("a"), with("x", "-l", "y")},
		{with("-a", "x", "--"), given("a"), with("x")},
		{with("--", "--"), nil, with("--")},
		{with("--", "--", "--"), nil, with("--", "--")},
		{with("-a", "--", "x", "--", "-l"), given("a"), with("x", "--", "-l")},
		{with("-", "--", "-"), nil, with("-", "-")},
		// Where a value is wanted it is one, and ends nothing.
		{with("-w", "--", "-a"), given("w=--", "a"), nil},
		{with("--width", "--", "-a"), given("w=--", "a"), nil},
		{with("-aw", "--", "--", "-a"), given("a", "w=--"), with("-a")},
		{with("-w--", "-a"), given("w=--", "a"), nil},
		{with("--width=--", "-a"), given("w=--", "a"), nil},
	} {
		tells(t, someSpecs, c.args, c.options, c.operands...)
	}
}

// P13.1
func TestReadOfLetters(t *testing.T) {
	for _, c := range []struct {
		args    []string
		options []Option
	}{
		{with("-a"), given("a")},
		{with("-l"), given("l")},
		{with("-al"), given("a", "l")},
		{with("-la"), given("l", "a")},
		{with("-alrmgq"), given("a", "l", "r", "m", "g", "q")},
		{with("-aa"), given("a", "a")},
		{with("-ala", "-a"), given("a", "l", "a", "a")},
		{with("-l", "-a", "-l"), given("l", "a", "l")},
		// A value in the argument: whatever is left of it.
		{with("-w5"), given("w=5")},
		{with("-wa"), given("w=a")},
		{with("-wal", "-l"), given("w=al", "l")},
		{with("-aw5"), given("a", "w=5")},
		{with("-alw5", "-r"), given("a", "l", "w=5", "r")},
		{with("-ww"), given("w=w")},
		{with("-wc"), given("w=c")},
		{with("-w-"), given("w=-")},
		{with("-w-a"), given("w=-a")},
		{with("-w=5"), given("w==5")},
		{with("-w="), given("w==")},
		{with("-w "), given("w= ")},
		{with("-w\x00\xff"), given("w=\x00\xff")},
		{with("-c%n %F"), given("c=%n %F")},
		// A value in the next argument: all of it, whatever it is.
		{with("-w", "5"), given("w=5")},
		{with("-w", ""), given("w=")},
		{with("-w", "", "-a"), given("w=", "a")},
		{with("-w", "-"), given("w=-")},
		{with("-w", "-a"), given("w=-a")},
		{with("-w", "-a", "-a"), given("w=-a", "a")},
		{with("-w", "-z"), given("w=-z")},
		{with("-w", "-w", "-w", "5"), given("w=-w", "w=5")},
		{with("-w", "--all"), given("w=--all")},
		{with("-w", "=5"), given("w==5")},
		{with("-aw", "5"), given("a", "w=5")},
		{with("-aw", "-l", "-l"), given("a", "w=-l", "l")},
		{with("-w", "5", "-c", "6", "-w7"), given("w=5", "c=6", "w=7")},
	} {
		tells(t, someSpecs, c.args, c.options)
	}
	tells(t, someSpecs, with("-w", "5", "6"), given("w=5"), "6")
	tells(t, someSpecs, with("6", "-aw", "x", "-a", "5"), given("a", "w=x", "a"), "6", "5")
}

// P13.1
func TestReadOfWrongLetters(t *testing.T) {
	for _, arg := range []string{
		"-z", "-za", "-az", "-azl", "-alz", "-zw5", "-zw", "-A", "-W", "-L", "-5",
		"-=", "-a=", "-a=x", "-a-", "-a-l", "-l--", "-\x00", "-a\x00", "-\xff", "-al\xff", "-ä", "-a ", "- ", "-\n",
	} {
		blames(t, someSpecs, with(arg), arg)
		blames(t, someSpecs, with(arg, "5"), arg)
		blames(t, someSpecs, with("-a", "x", arg, "-l", "y"), arg)
		blames(t, someSpecs, with("--all", arg, "--"), arg)
		tells(t, someSpecs, with("-w", arg, "--", arg), given("w="+arg), arg)
	}
	// A name isn't read as letters, nor letters as a name.
	blames(t, someSpecs, with("--a=x"), "--a=x")
	blames(t, someSpecs, with("--la"), "--la")
	blames(t, someSpecs, with("--l"), "--l")
	blames(t, someSpecs, with("-reverse"), "-reverse")
}

// P13.1: a value that lacks.
func TestReadOfLackingValues(t *testing.T) {
	for _, arg := range []string{"-w", "-c", "-aw", "-alw", "-ac", "--width", "--w", "--max-depth", "--group-l"} {
		blames(t, someSpecs, with(arg), arg)
		blames(t, someSpecs, with("-a", "x", arg), arg)
		blames(t, someSpecs, with("-w5", arg), arg)
		// The one ahead has taken this one.
		tells(t, someSpecs, with("-w", arg), given("w="+arg))
		blames(t, someSpecs, with("-w", "5", arg), arg)
	}
	blames(t, someSpecs, with("-w", "-w", "-w"), "-w")
	blames(t, someSpecs, with("-w", "--", "-aw"), "-aw")
	blames(t, someSpecs, with("--width", "--width", "--width"), "--width")
}

// P13.1: every byte is a letter, and - where a name can't begin.
func TestReadOfEveryLetter(t *testing.T) {
	for b := range 256 {
		letter, text := byte(b), string([]byte{byte(b)})
		bare := []Spec{{letter, "", false}}
		valued := []Spec{{letter, "", true}}
		other := []Spec{{letter + 1, "", false}, {letter - 1, text, true}}
		option := Option{Letter: letter}
		if text != "-" {
			tells(t, bare, with("-"+text), []Option{option})
			tells(t, bare, with("-"+text+text, "x"), []Option{option, option}, "x")
			tells(t, valued, with("-"+text+"v"), []Option{{letter, "v"}})
			tells(t, valued, with("-"+text+text), []Option{{letter, text}})
			tells(t, valued, with("-"+text, "v"), []Option{{letter, "v"}})
			blames(t, valued, with("-"+text), "-"+text)
			blames(t, other, with("-"+text), "-"+text)
		}
		if text != "x" {
			bare, valued = append(bare, Spec{Letter: 'x'}), append(valued, Spec{Letter: 'x'})
			x := Option{Letter: 'x'}
			tells(t, bare, with("-x"+text), []Option{x, option})
			tells(t, bare, with("-x"+text+"x"), []Option{x, option, x})
			tells(t, valued, with("-x"+text+"x"), []Option{x, {letter, "x"}})
			tells(t, valued, with("-x"+text, "--"), []Option{x, {letter, "--"}})
			blames(t, valued, with("-x"+text), "-x"+text)
		}
	}
	// Behind one - a second one is never a letter.
	dash := []Spec{{'-', "", false}, {'x', "", false}}
	tells(t, dash, with("--", "-x"), nil, "-x")
	tells(t, dash, with("-x-", "-"), given("x", "-"), "-")
	blames(t, dash, with("--x"), "--x")
	blames(t, dash, with("---"), "---")
}

// P13.1
func TestReadOfNames(t *testing.T) {
	for _, c := range []struct {
		args    []string
		options []Option
	}{
		{with("--all"), given("a")},
		{with("--reverse", "--all", "--reverse"), given("r", "a", "r")},
		// Begun.
		{with("--al"), given("a")},
		{with("--a"), given("a")},
		{with("--r", "--re", "--rev", "--reve", "--rever", "--revers"), given("r", "r", "r", "r", "r", "r")},
		{with("--q"), given("q")},
		{with("--group-f"), given("g")},
		{with("--group-l", "5"), given("G=5")},
		// One name begins another.
		{with("--max"), given("m")},
		{with("--max-", "5"), given("d=5")},
		{with("--max-d=5"), given("d=5")},
		{with("--max-depth", "5"), given("d=5")},
		{with("--max", "--max-depth=5", "--max"), given("m", "d=5", "m")},
		// A value behind a =.
		{with("--width=5"), given("w=5")},
		{with("--w=5"), given("w=5")},
		{with("--wid="), given("w=")},
		{with("--width=", "-a"), given("w=", "a")},
		{with("--width=a=b"), given("w=a=b")},
		{with("--width=="), given("w==")},
		{with("--width===x="), given("w===x=")},
		{with("--width=-a"), given("w=-a")},
		{with("--width=--all"), given("w=--all")},
		{with("--width= "), given("w= ")},
		{with("--width=\x00\xff"), given("w=\x00\xff")},
		// A value in the next argument.
		{with("--width", "5"), given("w=5")},
		{with("--w", "5", "--all"), given("w=5", "a")},
		{with("--width", ""), given("w=")},
		{with("--width", "-"), given("w=-")},
		{with("--width", "-a"), given("w=-a")},
		{with("--width", "--all", "--all"), given("w=--all", "a")},
		{with("--width", "--width", "--width", "5"), given("w=--width", "w=5")},
		{with("--width", "=5"), given("w==5")},
		{with("--width", "--none"), given("w=--none")},
	} {
		tells(t, someSpecs, c.args, c.options)
	}
	tells(t, someSpecs, with("--width=5", "6"), given("w=5"), "6")
	tells(t, someSpecs, with("--width=", "6"), given("w="), "6")
	tells(t, someSpecs, with("x", "--width", "y", "z", "--all", "u"), given("w=y", "a"), "x", "z", "u")
}

// P13.1
func TestReadOfWrongNames(t *testing.T) {
	for _, arg := range []string{
		// None's.
		"--none", "--z", "--allx", "--alL", "--ALL", "--all ", "-- all", "--ll", "--\x00", "--\xff", "--all\x00",
		"--widthx", "--widthx=5", "--width5", "--width =5", "--reverse-", "---", "---all", "----",
		"--none=", "--none=x", "--max-depthx", "--5",
		// More than one begins so.
		"--g", "--group", "--group-", "--group=", "--group-=x", "--m", "--ma", "--ma=5", "--m=",
		// The empty name begins all.
		"--=", "--=x", "--=all", "--==", "--=5=6",
		// A value that is too much.
		"--all=", "--all=x", "--all==", "--a=", "--al=x", "--reverse=1", "--max=5", "--max=", "--group-f=x", "--quiet=no",
	} {
		blames(t, someSpecs, with(arg), arg)
		blames(t, someSpecs, with(arg, "5"), arg)
		blames(t, someSpecs, with("-a", "x", "--width=5", arg, "--all", "y"), arg)
		tells(t, someSpecs, with("--width", arg, "--", arg), given("w="+arg), arg)
	}
}

// P13.1: what has no name isn't meant by one, not by the empty one either,
// with which all names begin.
func TestReadOfEmptyNames(t *testing.T) {
	for _, specs := range [][]Spec{
		{{'l', "", false}},
		{{'l', "", true}},
		{{'l', "", false}, {'c', "", true}},
		{{'a', "all", false}},
		{{'w', "width", true}, {'a', "all", false}},
		{{'w', "width", true}, {'W', "width", true}},
		{{'l', "", true}, {'w', "width", true}, {'a', "all", true}},
	} {
		blames(t, specs, with("--="), "--=")
		blames(t, specs, with("--=x"), "--=x")
		blames(t, specs, with("--=", "x"), "--=")
	}
	for _, specs := range [][]Spec{
		{{'w', "width", true}},
		{{'l', "", false}, {'w', "width", true}, {'c', "", true}},
	} {
		tells(t, specs, with("--="), given("w="))
		tells(t, specs, with("--=x", "y"), given("w=x"), "y")
		tells(t, specs, with("--=x=y"), given("w=x=y"))
		tells(t, specs, with("--", "--="), nil, "--=")
	}
	// Those without a name aren't counted among those whose name begins so.
	unnamed := []Spec{{'l', "", true}, {'a', "all", false}, {'c', "", false}}
	tells(t, unnamed, with("--a", "--al", "--all"), given("a", "a", "a"))
}

// P13.1: names that have odd bytes.
func TestReadOfOddNames(t *testing.T) {
	specs := []Spec{
		{'d', "-dash", false},
		{'b', "a b", true},
		{'e', "x=y", true},
		{'u', "ärger", false},
		{'z', "\x00\xff", false},
		{0, "nought", true},
		{255, "last", false},
	}
	tells(t, specs, with("---dash", "---", "---d"), given("d", "d", "d"))
	tells(t, specs, with("--a b=5", "--a ", "6"), given("b=5", "b=6"))
	tells(t, specs, with("--ärger", "--\xc3", "--ä"), given("u", "u", "u"))
	tells(t, specs, with("--\x00\xff", "--\x00"), given("z", "z"))
	tells(t, specs, with("--nought=5", "--last"), []Option{{0, "5"}, {255, ""}})
	tells(t, specs, with("-\xff\x00v"), []Option{{255, ""}, {0, "v"}})
	// The name is over at the first =, in whatever name one stands.
	tells(t, specs, with("--x=y"), given("e=y"))
	tells(t, specs, with("--x=y=z"), given("e=y=z"))
	tells(t, specs, with("--x", "y"), given("e=y"))
	blames(t, specs, with("----"), "----")
	blames(t, specs, with("---dash="), "---dash=")
}

// P13.1: the first one of a letter, or of a whole name, is meant.
func TestReadOfTwins(t *testing.T) {
	bare, valued := Spec{'a', "all", false}, Spec{'a', "all", true}
	tells(t, []Spec{bare, valued}, with("-a", "x"), given("a"), "x")
	tells(t, []Spec{valued, bare}, with("-a", "x"), given("a=x"))
	tells(t, []Spec{bare, valued}, with("-aa"), given("a", "a"))
	tells(t, []Spec{valued, bare}, with("-aa"), given("a=a"))
	blames(t, []Spec{valued, bare}, with("-a"), "-a")
	tells(t, []Spec{bare, valued}, with("--all", "x"), given("a"), "x")
	tells(t, []Spec{valued, bare}, with("--all", "x"), given("a=x"))
	tells(t, []Spec{valued, bare}, with("--all=x"), given("a=x"))
	blames(t, []Spec{bare, valued}, with("--all=x"), "--all=x")
	blames(t, []Spec{valued, bare}, with("--all"), "--all")

	// One letter, two names; one name, two letters.
	letters := []Spec{{'a', "all", false}, {'a', "any", true}}
	tells(t, letters, with("-a", "--all", "--any=5", "--an", "6"), given("a", "a", "a=5", "a=6"))
	blames(t, letters, with("--a"), "--a")
	names := []Spec{{'w', "width", true}, {'a', "all", false}, {'A', "all", true}, {'b', "all", false}}
	tells(t, names, with("-a", "-A", "--all", "-b", "--all"), given("a", "A=--all", "b", "a"))
	blames(t, names, with("--all="), "--all=")

	// More than one name begins so, though they are alike.
	blames(t, []Spec{bare, valued}, with("--al"), "--al")
	blames(t, []Spec{bare, bare}, with("--al"), "--al")
	blames(t, []Spec{valued, valued}, with("--a=x"), "--a=x")

	// The whole name is meant, wherever it stands among those that begin so.
	begun := []Spec{{'1', "group-first", true}, {'2', "group-last", true}, {'g', "group", false}, {'3', "groups", true}, {'h', "group", true}}
	tells(t, begun, with("--group", "x"), given("g"), "x")
	blames(t, begun, with("--group=x"), "--group=x")
	tells(t, begun, with("--groups", "x", "--group-l", "y"), given("3=x", "2=y"))
	blames(t, begun, with("--grou"), "--grou")
}

// P13.1: the first wrong one is to blame, and nothing that was read ahead of
// it is told.
func TestReadBlamesTheFirst(t *testing.T) {
	for _, c := range []struct {
		args  []string
		blame string
	}{
		{with("-z", "-y"), "-z"},
		{with("-y", "-z"), "-y"},
		{with("-a", "-y", "x", "-z"), "-y"},
		{with("-azy", "-y"), "-azy"},
		{with("--none", "-z"), "--none"},
		{with("-z", "--none"), "-z"},
		{with("--all=x", "--g", "--none", "-w"), "--all=x"},
		{with("--g", "--all=x"), "--g"},
		{with("x", "--none", "y", "--all=x", "-w"), "--none"},
		{with("-w", "-z", "-y"), "-y"},
		{with("-w", "-z", "--", "-y", "-w"), ""},
		{with("--width", "-z", "--none"), "--none"},
		{with("-w-z", "-y", "--"), "-y"},
		{with("-zw", "-w"), "-zw"},
		{with("-w", "5", "-w"), "-w"},
		{with("-w", "5", "--", "-w"), ""},
		{with("--", "-z", "--none", "-w"), ""},
		{with("-", "-z", "--", "-y"), "-z"},
	} {
		_, _, blame, err := Read(someSpecs, c.args)
		if blame != c.blame || (err == api.OK) != (c.blame == "") {
			t.Errorf("Read(%q) blames %q (%d), want %q", c.args, blame, err, c.blame)
		}
		if c.blame != "" {
			blames(t, someSpecs, c.args, c.blame)
		}
	}
}

// P13.1: what is handed in stays as it was, its spare room too, and what is
// answered is new.
func TestReadLeavesItsArguments(t *testing.T) {
	specRoom := append(slices.Clone(someSpecs), Spec{'y', "yes", true}, Spec{'z', "zone", false})
	for _, args := range [][]string{
		with("ls", "-a", "x", "--width", "5", "--", "-l", "y", "spare", "room"),
		with("ls", "--", "x", "-a", "z", "u", "-w", "7", "spare", "room"),
		with("ls", "x", "-", "y", "", "z", "u", "v", "spare", "room"),
		with("ls", "x", "-z", "y", "", "z", "u", "v", "spare", "room"),
		with("ls", "x", "-l", "y", "", "z", "u", "-w", "spare", "room"),
	} {
		specs, handed := specRoom[:len(someSpecs)], args[1:len(args)-2]
		specsBefore, argsBefore := slices.Clone(specRoom), slices.Clone(args)
		first := read(specs, handed)
		kept := answer{slices.Clone(first.options), slices.Clone(first.operands), first.blame, first.err}
		spoil(read(specs, handed))
		if !first.equals(kept) {
			t.Errorf("Read(%q): an answer has changed with another one", handed)
		}
		spoil(first)
		if !slices.Equal(specRoom, specsBefore) || !slices.Equal(args, argsBefore) {
			t.Errorf("Read(%q) has changed, or answers, what it was handed", argsBefore)
		}
		if again := read(specs, handed); !again.equals(kept) {
			t.Errorf("Read(%q) = %+v, ahead of that %+v", handed, again, kept)
		}
	}
}

// spoil writes over all room that an answer has.
func spoil(a answer) {
	options, operands := a.options[:cap(a.options)], a.operands[:cap(a.operands)]
	for i := range options {
		options[i] = Option{'!', "spoilt"}
	}
	for i := range operands {
		operands[i] = "spoilt"
	}
}

// P13.1: arguments that are many, or long.
func TestReadOfMuch(t *testing.T) {
	const much = 100000
	var args, operands []string
	var options []Option
	for range much {
		args = append(args, "-aw", "--", "x", "--max=", "--all")
	}
	blames(t, someSpecs, args, "--max=")
	args = nil
	for range much {
		args = append(args, "-aw", "--", "x", "--max-depth=", "--all")
		options = append(options, given("a", "w=--", "d=", "a")...)
		operands = append(operands, "x")
	}
	tells(t, someSpecs, args, options, operands...)

	letters := strings.Repeat("a", much)
	tells(t, someSpecs, with("-"+letters+"w"+letters), append(given(strings.Split(letters, "")...), Option{'w', letters}))
	blames(t, someSpecs, with("-"+letters+"z"), "-"+letters+"z")
	blames(t, someSpecs, with("--"+letters), "--"+letters)
	tells(t, []Spec{{'n', letters, true}}, with("--"+letters[1:]+"="+letters), []Option{{'n', letters}})
}

// P13.2
func TestLast(t *testing.T) {
	some := given("l=1", "C=2", "a=3", "l=4", "x=5", "a=6")
	for _, c := range []struct {
		l       []Option
		letters string
		want    string
	}{
		{nil, "", ""},
		{nil, "a", ""},
		{[]Option{}, "lCx", ""},
		{some, "", ""},
		{some, "z", ""},
		{some, "Azc", ""},
		{some, "1=6", ""},
		{some, "l", "l=4"},
		{some, "C", "C=2"},
		{some, "a", "a=6"},
		{some, "x", "x=5"},
		{some, "lC", "l=4"},
		{some, "Cl", "l=4"},
		{some, "lCx", "x=5"},
		{some, "xCl", "x=5"},
		{some, "lxa", "a=6"},
		{some, "zCz", "C=2"},
		{some, "CC", "C=2"},
		{some[:1], "l", "l=1"},
		{some[:3], "lC", "C=2"},
		{some[:4], "C", "C=2"},
		{given("l", "l"), "l", "l"},
		{given("a", "b", "a"), "ab", "a"},
	} {
		var want Option
		if c.want != "" {
			want = given(c.want)[0]
		}
		got, ok := Last(c.l, c.letters)
		if got != want || ok != (c.want != "") {
			t.Errorf("Last(%v, %q) = %v, %v, want %v", c.l, c.letters, got, ok, want)
		}
	}
}

// P13.2
func TestHas(t *testing.T) {
	some := given("l=1", "C=2", "a=3", "l=4", "-=5", "==6")
	for b := range 256 {
		letter := byte(b)
		want := strings.IndexByte("lCa-=", letter) >= 0
		if got := Has(some, letter); got != want {
			t.Errorf("Has(%v, %q) = %v", some, letter, got)
		}
		if Has(nil, letter) || Has([]Option{}, letter) || Has(some[:0], letter) {
			t.Errorf("no options have %q", letter)
		}
		if !Has([]Option{{letter, ""}}, letter) || !Has([]Option{{letter + 1, ""}, {letter, "x"}, {letter + 1, ""}}, letter) {
			t.Errorf("Has doesn't find %q", letter)
		}
	}
	if Has(some[:2], 'a') || !Has(some[:3], 'a') {
		t.Error("Has hangs on what isn't in the list")
	}
}

// P13.2: letters are bytes, not characters.
func TestLastAndHasOfEveryLetter(t *testing.T) {
	for b := range 256 {
		letter := byte(b)
		o, others := Option{letter, "v"}, []byte{letter + 1, letter - 1}
		for _, l := range [][]Option{{o}, {{letter, "u"}, o}, {o, {letter + 1, "w"}}} {
			if got, ok := Last(l, string([]byte{letter})); got != o || !ok {
				t.Errorf("Last(%v, %q) = %v, %v", l, letter, got, ok)
			}
			if got, ok := Last(l, string([]byte{letter - 1, letter})); got != o || !ok {
				t.Errorf("Last(%v, %q and one more) = %v, %v", l, letter, got, ok)
			}
		}
		if got, ok := Last([]Option{o, o}, string(others)); got != (Option{}) || ok {
			t.Errorf("Last(%v, %q) = %v, %v", o, others, got, ok)
		}
	}
	// U+00E4 is the bytes C3 and A4.
	for letter, want := range map[byte]bool{0xe4: false, 0xc3: true, 0xa4: true} {
		if _, ok := Last([]Option{{letter, ""}}, "ä"); ok != want {
			t.Errorf("Last of %x in U+00E4: %v", letter, ok)
		}
	}
	// A letter that is 0, or an option that is all zero, is there nevertheless.
	if got, ok := Last([]Option{{}}, "\x00"); got != (Option{}) || !ok || !Has([]Option{{}}, 0) {
		t.Errorf("the letter 0: %v, %v", got, ok)
	}
}

// P13.2: the options stay as they are.
func TestLastAndHasLeaveTheirArguments(t *testing.T) {
	room := given("l=1", "C=2", "a=3", "l=4", "spare", "room")
	before := slices.Clone(room)
	for _, letters := range []string{"", "l", "Ca", "z"} {
		Last(room[1:4], letters)
		Has(room[1:4], 'C')
		Has(room[1:4], 'z')
	}
	if !slices.Equal(room, before) {
		t.Errorf("the options have changed: %v", room)
	}
}
