package quote

import (
	"fmt"
	"regexp"
	"strings"
	"testing"
)

// P3.2

type reading struct {
	text, want string
}

func checkReader(t *testing.T, name string, read func(string) (string, bool), good []reading, bad []string) {
	for _, c := range good {
		if got, ok := read(c.text); got != c.want || !ok {
			t.Errorf("%s(%q): %q, %v, want %q", name, c.text, got, ok, c.want)
		}
	}
	for _, s := range bad {
		if got, ok := read(s); got != "" || ok {
			t.Errorf("%s(%q): %q, %v", name, s, got, ok)
		}
	}
}

func TestShell(t *testing.T) {
	checkReader(t, "Shell", Shell, []reading{
		{"a", "a"}, {"a/b.c-d_@%+=:,09Z", "a/b.c-d_@%+=:,09Z"}, {"\u00e9\u3042\U0001f600", "\u00e9\u3042\U0001f600"}, {"\u0080", "\u0080"}, {"\ufffd", "\ufffd"},
		{"''", ""}, {"''''", ""}, {"'a b'", "a b"}, {"'\n\t\x00\x7f\xff\xe3\x81'", "\n\t\x00\x7f\xff\xe3\x81"},
		{`'\'`, `\`}, {`'\n\101'`, `\n\101`}, {`'"$*'`, `"$*`}, {`'$'`, "$"},
		{`\'`, "'"}, {`\'\'`, "''"}, {`''\'''`, "'"}, {`'it'\''s'`, "it's"}, {`it\'s`, "it's"}, {`a'b'c`, "abc"}, {`'a'b'c'`, "abc"},
		{"$''", ""}, {"$''a", "a"}, {`$'\n'`, "\n"}, {`$'\t'`, "\t"}, {`$'\n\t\n'`, "\n\t\n"}, {`'a b'$'\n'`, "a b\n"}, {`'a'$'\n''b'`, "a\nb"},
		{`$'\000'`, "\x00"}, {`$'\001\177\200\377'`, "\x01\x7f\x80\xff"}, {`$'\376'`, "\xfe"}, {`$'\012\011'`, "\n\t"},
		// An octal escape may mean any byte.
		{`$'\101\047\134\042'`, `A'\"`}, {`$'\343\201\202'`, "\u3042"}, {`$'\000'1`, "\x001"}, {`$'\n'$'\t'`, "\n\t"}, {`a$'\n'`, "a\n"},
	}, []string{
		"", " ", "a b", "a ", " a", "''\n", "\n", "\t", "a\x00", "\x7f", "*", "~", "#", "!", "a;b", "(", "`", "{", "^", "|", "&", "<", ">", "?", "[", "]",
		`"`, `""`, `"a"`, `a"`, "'", "'a", "a'", "'a''", "'''", "'a'b'", `'it's'`,
		`\`, `\\`, `\n`, `\a`, `\"`, `\ `, "\\\n", `a\`, `''\`, `\101`,
		"$", "$$", "$a", "a$", "$ '", `$"a"`, `$\'`, "''$", "$'", `$'\`, `$'\n`, `a$'\n`, `$'\'`, `$'\''`, `$'\\'`, `$'\"'`, `$'\r'`, `$'\a'`, `$'\x41'`, `$'\N'`,
		"$'a'", "$'\n'", `$' '`, `$'\na'`, `$'a\n'`, `$'\n \t'`,
		`$'\0'`, `$'\00'`, `$'\7'`, `$'\77'`, `$'\37'`, `$'\1`, `$'\10`, `$'\101`, `$'\400'`, `$'\477'`, `$'\777'`, `$'\700'`, `$'\378'`, `$'\387'`, `$'\800'`, `$'\08 '`,
		`$'\/00'`, `$'\0/0'`, `$'\00/'`, `$'\:00'`, `$'\0000'`, `$'\1011'`, `$'\-01'`, `$'\+01'`, `$'\ 01'`, `$'\0_1'`, `$'\n''`,
		"\x80", "\xff", "a\xe3\x81", "\xe3\x81a", "\xe3'\x81\x82'", "'\xe3'\x81\x82", "'\xe3\x81'\x82", "\xc0\x80", "\xed\xa0\x80", "\u3042\x82",
	})
}

func TestC(t *testing.T) {
	checkReader(t, "C", C, []reading{
		{`""`, ""}, {`"a"`, "a"}, {`" "`, " "}, {`"a b"`, "a b"}, {`"'"`, "'"}, {`"$'"`, "$'"}, {"\"\u3042\"", "\u3042"},
		// Bytes that are none of " and \ stand for themselves, hard ones too.
		{"\"\n\t\x00\x7f\xff\xe3\x81\"", "\n\t\x00\x7f\xff\xe3\x81"},
		{`"\""`, `"`}, {`"\"\""`, `""`}, {`"\\"`, `\`}, {`"\\\\"`, `\\`}, {`"\\\""`, `\"`}, {`"\\n"`, `\n`}, {`"a\"b"`, `a"b`},
		{`"\n"`, "\n"}, {`"\t"`, "\t"}, {`"\nn\tt"`, "\nn\tt"}, {`"a b\n"`, "a b\n"},
		{`"\000"`, "\x00"}, {`"\0001"`, "\x001"}, {`"\177\200\377"`, "\x7f\x80\xff"}, {`"\3777"`, "\xff7"}, {`"\101\042\134"`, `A"\`}, {`"\343\201\202"`, "\u3042"},
	}, []string{
		"", "a", " ", `"`, `a"`, `"a`, `\"`, `\"a"`, "''", "'a'", `'"a"'`, ` "a"`, `a"b"`,
		`"a"b`, `"a" `, `"a""`, `"""`, `""""`, `"a""b"`, "\"a\"\n", "\"a\"\x00", `""\n`, `"a"\`,
		`"\"`, `"\`, `"\\`, `"\\\"`, `"a\"`, `"\a"`, `"\r"`, `"\'"`, `"\ "`, `"\N"`, `"\x41"`, "\"\\\n\"", "\"\\\xff\"", `"\/"`,
		`"\0"`, `"\00"`, `"\1"`, `"\37"`, `"\1`, `"\10`, `"\101`, `"\400"`, `"\477"`, `"\777"`, `"\378"`, `"\387"`, `"\800"`, `"\08 "`,
		`"\0"00"`, `"\/00"`, `"\0/0"`, `"\00/"`, `"\:00"`, `"\-01"`, `"\0_1"`, `"\ 01"`,
	})
}

var (
	shellForm = regexp.MustCompile(`(?s)^` + aShellPart + `+$`)
	shellPart = regexp.MustCompile(`(?s)` + aShellPart)
	cForm     = regexp.MustCompile(`(?s)^"` + aCPart + `*"$`)
	cPart     = regexp.MustCompile(`(?s)` + aCPart)
	escapes   = regexp.MustCompile(anEscape)
)

// meant is what an escape means.
func meant(escape string) string {
	switch escape {
	case `\n`:
		return "\n"
	case `\t`:
		return "\t"
	}
	var b byte
	fmt.Sscanf(escape[1:], "%o", &b)
	return string([]byte{b})
}

func meantByShell(part string) string {
	switch {
	case part == `\'`:
		return "'"
	case strings.HasPrefix(part, "$'"):
		out := ""
		for _, m := range escapes.FindAllString(part, -1) {
			out += meant(m)
		}
		return out
	case strings.HasPrefix(part, "'"):
		return part[1 : len(part)-1]
	}
	return part
}

func meantByC(part string) string {
	switch {
	case part == `\"` || part == `\\`:
		return part[1:]
	case part[0] == '\\':
		return meant(part)
	}
	return part
}

// joined is what the parts of s mean together.
func joined(s string, part *regexp.Regexp, mean func(string) string) string {
	out := ""
	for _, m := range part.FindAllString(wide(s), -1) {
		out += mean(narrow(m))
	}
	return out
}

// againstGrammar holds both readers against the form of s as a whole.
func againstGrammar(t *testing.T, s string) {
	want, wantOk := "", shellForm.MatchString(wide(s))
	if wantOk {
		want = joined(s, shellPart, meantByShell)
	}
	if got, ok := Shell(s); got != want || ok != wantOk {
		t.Fatalf("Shell(%q): %q, %v, want %q, %v", s, got, ok, want, wantOk)
	}
	want, wantOk = "", cForm.MatchString(wide(s))
	if wantOk {
		want = joined(s[1:len(s)-1], cPart, meantByC)
	}
	if got, ok := C(s); got != want || ok != wantOk {
		t.Fatalf("C(%q): %q, %v, want %q, %v", s, got, ok, want, wantOk)
	}
}

// eachText hands over ahead with at most so many of these bytes behind it.
func eachText(bytes, ahead string, most int, tell func(string)) {
	tell(ahead)
	if most == 0 {
		return
	}
	for i := range len(bytes) {
		eachText(bytes, ahead+bytes[i:i+1], most-1, tell)
	}
}

func TestReadersOfAllShortTexts(t *testing.T) {
	check := func(s string) { againstGrammar(t, s) }
	eachText("a'\\$\"n \xc3\xa9", "", 5, check)
	eachText(`'\$n374`, "$'", 5, check)
	eachText(`"\n374`, `"`, 6, check)
}

func TestReadersOfWhatIsCutOffAndJoined(t *testing.T) {
	for _, c := range append(quotedNames(), hardNames()...) {
		for _, s := range c.want {
			for i := range len(s) + 1 {
				againstGrammar(t, s[:i])
				againstGrammar(t, s[i:])
				againstGrammar(t, s+s[:i])
			}
		}
	}
}

func TestReadersOfNames(t *testing.T) {
	for _, s := range names() {
		againstGrammar(t, s)
	}
}

func TestEscapesOfAllNumbers(t *testing.T) {
	for n := range 512 {
		octal := fmt.Sprintf("%03o", n)
		want, wantOk := "", n <= 0o377
		if wantOk {
			want = string([]byte{byte(n)})
		}
		if got, ok := Shell(`$'\` + octal + "'"); got != want || ok != wantOk {
			t.Errorf("Shell of %s: %q, %v", octal, got, ok)
		}
		if got, ok := C(`"\` + octal + `"`); got != want || ok != wantOk {
			t.Errorf("C of %s: %q, %v", octal, got, ok)
		}
	}
}

func TestReadersOfEachByteBehindABackslash(t *testing.T) {
	means := map[byte]string{'n': "\n", 't': "\t"}
	for b := range 256 {
		s := `\` + string([]byte{byte(b)})
		want, wantOk := means[byte(b)]
		if got, ok := Shell("$'" + s + "'"); got != want || ok != wantOk {
			t.Errorf("Shell of %q: %q, %v", s, got, ok)
		}
		if b == '"' || b == '\\' {
			want, wantOk = s[1:], true
		}
		if got, ok := C(`"` + s + `"`); got != want || ok != wantOk {
			t.Errorf("C of %q: %q, %v", s, got, ok)
		}
		if got, ok := Shell(s); ok != (b == '\'') || ok && got != "'" {
			t.Errorf("Shell of %q alone: %q, %v", s, got, ok)
		}
	}
}
