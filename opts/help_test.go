package opts

import (
	"fmt"
	"slices"
	"testing"

	"domesday/api"
)

// someSpecs has letters with names and without, with values and without;
// "max" begins "max-depth", and "group" two others.
var someSpecs = []Spec{
	{'a', "all", false},
	{'l', "", false},
	{'r', "reverse", false},
	{'w', "width", true},
	{'c', "", true},
	{'m', "max", false},
	{'d', "max-depth", true},
	{'g', "group-first", false},
	{'G', "group-last", true},
	{'q', "quiet", false},
}

// answer is all that Read tells.
type answer struct {
	options  []Option
	operands []string
	blame    string
	err      api.Errno
}

// read is Read, its answer in one.
func read(specs []Spec, args []string) answer {
	options, operands, blame, err := Read(specs, args)
	return answer{options, operands, blame, err}
}

func (a answer) equals(b answer) bool {
	return slices.Equal(a.options, b.options) && slices.Equal(a.operands, b.operands) &&
		a.blame == b.blame && a.err == b.err
}

// given are options written shortly: "a" has no value, "w=5" the value 5.
func given(short ...string) []Option {
	var told []Option
	for _, s := range short {
		o := Option{Letter: s[0]}
		if len(s) > 1 {
			o.Value = s[2:]
		}
		told = append(told, o)
	}
	return told
}

// with are the arguments of one reading.
func with(args ...string) []string {
	return args
}

// tells asks whether what is read is well, and is just this.
func tells(t *testing.T, specs []Spec, args []string, options []Option, operands ...string) {
	t.Helper()
	isRead(t, specs, args, answer{options: options, operands: operands})
}

// blames asks whether this argument is to blame, with nothing beside it.
func blames(t *testing.T, specs []Spec, args []string, blame string) {
	t.Helper()
	isRead(t, specs, args, answer{blame: blame, err: api.ErrOption})
}

func isRead(t *testing.T, specs []Spec, args []string, want answer) {
	t.Helper()
	if got := read(specs, args); !got.equals(want) {
		t.Errorf("Read(%s) = %s, want %s", cut("%q", args), cut("%+v", got), cut("%+v", want))
	}
}

// cut writes a value, but no more of it than somebody reads.
func cut(form string, value any) string {
	const most = 500
	text := fmt.Sprintf(form, value)
	if len(text) > most {
		return text[:most] + ".."
	}
	return text
}
