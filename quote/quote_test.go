package quote

import (
	"fmt"
	"math"
	"regexp"
	"strings"
	"testing"
)

// forms are what a name is in each of the six styles.
type forms struct {
	name string
	want [6]string
}

func plainNames() []forms {
	var l []forms
	for _, s := range []string{
		"a", "Z", "0", "_", "@", "%", "+", "=", ":", ",", ".", "/", "-", "..", "-rf", "a/b.c", "A-Z_09@%+=:,./-",
		"\u00e9", "\u0080", "\u009f", "\u00a0", "\u07ff", "\u0800", "\ufffd", "\u3042b", "\U00010000", "\U0010ffff", "\ud7ff\ue000",
	} {
		l = append(l, forms{s, [6]string{s, s, "'" + s + "'", s, `"` + s + `"`, s}})
	}
	return l
}

func quotedNames() []forms {
	return []forms{
		{"", [6]string{"", "''", "''", "''", `""`, ""}},
		{" ", [6]string{" ", "' '", "' '", "' '", `" "`, `\ `}},
		{"a b", [6]string{"a b", "'a b'", "'a b'", "'a b'", `"a b"`, `a\ b`}},
		{" a  ", [6]string{" a  ", "' a  '", "' a  '", "' a  '", `" a  "`, `\ a\ \ `}},
		{"'", [6]string{"'", `''\'''`, `''\'''`, `''\'''`, `"'"`, "'"}},
		{"''", [6]string{"''", `''\'''\'''`, `''\'''\'''`, `''\'''\'''`, `"''"`, "''"}},
		{"it's", [6]string{"it's", `'it'\''s'`, `'it'\''s'`, `'it'\''s'`, `"it's"`, "it's"}},
		{`"`, [6]string{`"`, `'"'`, `'"'`, `'"'`, `"\""`, `"`}},
		{`a"b`, [6]string{`a"b`, `'a"b'`, `'a"b'`, `'a"b'`, `"a\"b"`, `a"b`}},
		{`\`, [6]string{`\`, `'\'`, `'\'`, `'\'`, `"\\"`, `\\`}},
		{`\n`, [6]string{`\n`, `'\n'`, `'\n'`, `'\n'`, `"\\n"`, `\\n`}},
		{`\'`, [6]string{`\'`, `'\'\'''`, `'\'\'''`, `'\'\'''`, `"\\'"`, `\\'`}},
		{"$", [6]string{"$", "'$'", "'$'", "'$'", `"$"`, "$"}},
		{"$'", [6]string{"$'", `'$'\'''`, `'$'\'''`, `'$'\'''`, `"$'"`, "$'"}},
		{"a$b", [6]string{"a$b", "'a$b'", "'a$b'", "'a$b'", `"a$b"`, "a$b"}},
		{"\u3042 b", [6]string{"\u3042 b", "'\u3042 b'", "'\u3042 b'", "'\u3042 b'", "\"\u3042 b\"", "\u3042\\ b"}},
	}
}

func hardNames() []forms {
	return []forms{
		{"\n", [6]string{"\n", "'\n'", "'\n'", `$'\n'`, `"\n"`, `\n`}},
		{"\t", [6]string{"\t", "'\t'", "'\t'", `$'\t'`, `"\t"`, `\t`}},
		{"\x00", [6]string{"\x00", "'\x00'", "'\x00'", `$'\000'`, `"\000"`, `\000`}},
		{"\x07", [6]string{"\x07", "'\x07'", "'\x07'", `$'\007'`, `"\007"`, `\007`}},
		{"\r", [6]string{"\r", "'\r'", "'\r'", `$'\015'`, `"\015"`, `\015`}},
		{"\x1f", [6]string{"\x1f", "'\x1f'", "'\x1f'", `$'\037'`, `"\037"`, `\037`}},
		{"\x7f", [6]string{"\x7f", "'\x7f'", "'\x7f'", `$'\177'`, `"\177"`, `\177`}},
		{"\x80", [6]string{"\x80", "'\x80'", "'\x80'", `$'\200'`, `"\200"`, `\200`}},
		{"\xff", [6]string{"\xff", "'\xff'", "'\xff'", `$'\377'`, `"\377"`, `\377`}},
		// At the beginning, in the middle, at the end, and several in a row.
		{"a b\n", [6]string{"a b\n", "'a b\n'", "'a b\n'", `'a b'$'\n'`, `"a b\n"`, `a\ b\n`}},
		{"\na", [6]string{"\na", "'\na'", "'\na'", `$'\n''a'`, `"\na"`, `\na`}},
		{"a\tb", [6]string{"a\tb", "'a\tb'", "'a\tb'", `'a'$'\t''b'`, `"a\tb"`, `a\tb`}},
		{"\n\t\x01\xff", [6]string{"\n\t\x01\xff", "'\n\t\x01\xff'", "'\n\t\x01\xff'", `$'\n\t\001\377'`, `"\n\t\001\377"`, `\n\t\001\377`}},
		{"a\n\nb\x7f\x7f", [6]string{"a\n\nb\x7f\x7f", "'a\n\nb\x7f\x7f'", "'a\n\nb\x7f\x7f'", `'a'$'\n\n''b'$'\177\177'`, `"a\n\nb\177\177"`, `a\n\nb\177\177`}},
		{"\n1", [6]string{"\n1", "'\n1'", "'\n1'", `$'\n''1'`, `"\n1"`, `\n1`}},
		{"\x001", [6]string{"\x001", "'\x001'", "'\x001'", `$'\000''1'`, `"\0001"`, `\0001`}},
		{"it's\n", [6]string{"it's\n", "'it'\\''s\n'", "'it'\\''s\n'", `'it'\''s'$'\n'`, `"it's\n"`, `it's\n`}},
		{"'\n'", [6]string{"'\n'", "''\\''\n'\\'''", "''\\''\n'\\'''", `''\'''$'\n'''\'''`, `"'\n'"`, `'\n'`}},
		{"\\\n\" ", [6]string{"\\\n\" ", "'\\\n\" '", "'\\\n\" '", `'\'$'\n''" '`, `"\\\n\" "`, `\\\n"\ `}},
		// Characters of more than one byte, whole and cut off.
		{"\u3042\n", [6]string{"\u3042\n", "'\u3042\n'", "'\u3042\n'", "'\u3042'$'\\n'", "\"\u3042\\n\"", "\u3042\\n"}},
		{"\xe3\x81", [6]string{"\xe3\x81", "'\xe3\x81'", "'\xe3\x81'", `$'\343\201'`, `"\343\201"`, `\343\201`}},
		{"\xe3\x81a", [6]string{"\xe3\x81a", "'\xe3\x81a'", "'\xe3\x81a'", `$'\343\201''a'`, `"\343\201a"`, `\343\201a`}},
		{"\xe3\u3042", [6]string{"\xe3\u3042", "'\xe3\u3042'", "'\xe3\u3042'", "$'\\343''\u3042'", "\"\\343\u3042\"", "\\343\u3042"}},
		{"\u00e9\xa9", [6]string{"\u00e9\xa9", "'\u00e9\xa9'", "'\u00e9\xa9'", "'\u00e9'$'\\251'", "\"\u00e9\\251\"", "\u00e9\\251"}},
		{"\xf0\x9f\x98 ", [6]string{"\xf0\x9f\x98 ", "'\xf0\x9f\x98 '", "'\xf0\x9f\x98 '", `$'\360\237\230'' '`, `"\360\237\230 "`, `\360\237\230\ `}},
		{"\xc0\x80", [6]string{"\xc0\x80", "'\xc0\x80'", "'\xc0\x80'", `$'\300\200'`, `"\300\200"`, `\300\200`}},
		{"\xed\xa0\x80", [6]string{"\xed\xa0\x80", "'\xed\xa0\x80'", "'\xed\xa0\x80'", `$'\355\240\200'`, `"\355\240\200"`, `\355\240\200`}},
		{"\xf4\x90\x80\x80", [6]string{"\xf4\x90\x80\x80", "'\xf4\x90\x80\x80'", "'\xf4\x90\x80\x80'", `$'\364\220\200\200'`, `"\364\220\200\200"`, `\364\220\200\200`}},
	}
}

// The chapter's grammar, over a text whose bytes are the characters
// U+0000 to U+00FF, so that bytes that belong to no character can be told.
const (
	sureBytes  = `[A-Za-z0-9_@%+=:,./-]`
	characters = `(?:[\x{c2}-\x{df}][\x{80}-\x{bf}]` +
		`|\x{e0}[\x{a0}-\x{bf}][\x{80}-\x{bf}]|[\x{e1}-\x{ec}\x{ee}\x{ef}][\x{80}-\x{bf}]{2}|\x{ed}[\x{80}-\x{9f}][\x{80}-\x{bf}]` +
		`|\x{f0}[\x{90}-\x{bf}][\x{80}-\x{bf}]{2}|[\x{f1}-\x{f3}][\x{80}-\x{bf}]{3}|\x{f4}[\x{80}-\x{8f}][\x{80}-\x{bf}]{2})`
	anEscape   = `\\(?:n|t|[0-3][0-7][0-7])`
	aShellPart = `(?:` + sureBytes + `|` + characters + `|'[^']*'|\\'|\$'(?:` + anEscape + `)*')`
	aCPart     = `(?:[^"\\]|\\["\\]|` + anEscape + `)`
)

// wide writes each byte as a character, narrow takes it back.
func wide(s string) string {
	l := make([]rune, len(s))
	for i := range len(s) {
		l[i] = rune(s[i])
	}
	return string(l)
}

func narrow(s string) string {
	var l []byte
	for _, r := range s {
		l = append(l, byte(r))
	}
	return string(l)
}

// pieces are bytes of each kind, and beginnings and ends of characters, which
// may join to whole ones.
func pieces() []string {
	return []string{
		"", "a", "7", "-", "'", `"`, `\`, "$", " ", "*", "n", "$'", `\'`, "\n", "\t", "\x00", "\x1f", "\x7f",
		"\u00e9", "\u0080", "\ufffd", "\u3042", "\U0001f600", "\x80", "\xbf", "\xff", "\xc0", "\xc3", "\xa9",
		"\xe3\x81", "\x82", "\xf0\x9f", "\x98\x80", "\xed\xa0\x80",
	}
}

// names are all bytes, all pairs of bytes, and all pieces, in threes.
func names() []string {
	var l []string
	for a := range 256 {
		l = append(l, string([]byte{byte(a)}))
		for b := range 256 {
			l = append(l, string([]byte{byte(a), byte(b)}))
		}
	}
	for _, a := range pieces() {
		for _, b := range pieces() {
			for _, c := range pieces() {
				l = append(l, a+b+c)
			}
		}
	}
	return l
}

// P3.1

func TestQuoteInEachStyle(t *testing.T) {
	for _, l := range [][]forms{plainNames(), quotedNames(), hardNames()} {
		for _, c := range l {
			for style, want := range c.want {
				if got := Quote(style, c.name); got != want {
					t.Errorf("Quote(%d, %q): %q, want %q", style, c.name, got, want)
				}
			}
		}
	}
}

func TestQuoteOfNoStyle(t *testing.T) {
	for _, style := range []int{-1, -2, -6, 6, 7, 8, 256, 260, 1 << 32, math.MinInt, math.MaxInt} {
		for _, s := range []string{"", "a", "a b", "\n", "\xff"} {
			if got := Quote(style, s); got != "" {
				t.Errorf("Quote(%d, %q): %q", style, s, got)
			}
		}
	}
}

func TestEachByteByItself(t *testing.T) {
	const allPlain = "ABCDEFGHIJKLMNOPQRSTUVWXYZabcdefghijklmnopqrstuvwxyz0123456789_@%+=:,./-"
	count := 0
	for b := range 256 {
		s := string([]byte{byte(b)})
		isPlain := b < 0x80 && strings.Contains(allPlain, s)
		isHard := b < 0x20 || b >= 0x7f
		if isPlain {
			count++
		}
		if got := Quote(1, s) == s; got != isPlain {
			t.Errorf("%#x: bare %v in SHELL", b, got)
		}
		if got := strings.HasPrefix(Quote(3, s), "$'"); got != isHard {
			t.Errorf("%#x: escaped %v in SHELL-ESCAPE", b, got)
		}
		if got := len(Quote(4, s)) > 3; got != (isHard || b == '"' || b == '\\') {
			t.Errorf("%#x: escaped %v in C", b, got)
		}
		if got := len(Quote(5, s)) > 1; got != (isHard || b == ' ' || b == '\\') {
			t.Errorf("%#x: escaped %v in ESCAPE", b, got)
		}
	}
	if count != 72 {
		t.Errorf("%d plain bytes", count)
	}
}

// token is a character of more than one byte, or a byte by itself.
type token struct {
	bytes  string
	isHard bool
	escape string
}

var (
	tokenForm = regexp.MustCompile(`(?s)` + characters + `|.`)
	plainForm = regexp.MustCompile(`^(?:` + sureBytes + `|` + characters + `)+$`)
)

// tokens parts s by the grammar, without any decoder of characters.
func tokens(s string) []token {
	var l []token
	for _, m := range tokenForm.FindAllString(wide(s), -1) {
		k := token{bytes: narrow(m)}
		if b := k.bytes[0]; len(k.bytes) == 1 && (b < 0x20 || b >= 0x7f) {
			k.isHard = true
			k.escape = fmt.Sprintf(`\%03o`, b)
		}
		switch k.bytes {
		case "\n":
			k.escape = `\n`
		case "\t":
			k.escape = `\t`
		}
		l = append(l, k)
	}
	return l
}

// always is s between quotes.
func always(s string) string {
	return "'" + strings.Join(strings.Split(s, "'"), `'\''`) + "'"
}

// stretched is s in SHELL-ESCAPE, if it has a hard byte.
func stretched(l []token) string {
	out, stretch := "", ""
	for i, k := range l {
		if k.isHard {
			stretch += k.escape
		} else {
			stretch += k.bytes
		}
		if i+1 < len(l) && l[i+1].isHard == k.isHard {
			continue
		}
		if k.isHard {
			out += "$'" + stretch + "'"
		} else {
			out += always(stretch)
		}
		stretch = ""
	}
	return out
}

// spelled is what s must be in each style.
func spelled(s string) [6]string {
	l := tokens(s)
	anyHard, inC, escaped := false, "", ""
	for _, k := range l {
		switch {
		case k.isHard:
			anyHard = true
			inC += k.escape
			escaped += k.escape
		case k.bytes == `\`:
			inC += `\\`
			escaped += `\\`
		case k.bytes == `"`:
			inC += `\"`
			escaped += `"`
		case k.bytes == " ":
			inC += " "
			escaped += `\ `
		default:
			inC += k.bytes
			escaped += k.bytes
		}
	}
	want := [6]string{s, s, always(s), s, `"` + inC + `"`, escaped}
	if !plainForm.MatchString(wide(s)) {
		want[1], want[3] = always(s), always(s)
	}
	if anyHard {
		want[3] = stretched(l)
	}
	return want
}

func TestQuoteOfManyNames(t *testing.T) {
	for _, s := range names() {
		for style, want := range spelled(s) {
			if got := Quote(style, s); got != want {
				t.Fatalf("Quote(%d, %q): %q, want %q", style, s, got, want)
			}
		}
	}
}

func TestQuoteOfLongName(t *testing.T) {
	const n = 100000
	for style, want := range []int{3 * n, 3*n + 2, 3*n + 2, n * len(`'a '$'\n'`), n*len(`a \n`) + 2, n * len(`a\ \n`)} {
		if got := len(Quote(style, strings.Repeat("a \n", n))); got != want {
			t.Errorf("style %d: %d bytes, want %d", style, got, want)
		}
	}
}

// P3.3

func TestWhatIsQuotedIsReadAsItWas(t *testing.T) {
	for _, s := range append(names(), strings.Repeat("a 'b'\n\xff\u3042\"\\", 20000)) {
		for style := 1; style <= 3; style++ {
			if got, ok := Shell(Quote(style, s)); got != s || !ok {
				t.Fatalf("%q in style %d is %q, read as %q, %v", s, style, Quote(style, s), got, ok)
			}
		}
		if got, ok := C(Quote(4, s)); got != s || !ok {
			t.Fatalf("%q is %q, read as %q, %v", s, Quote(4, s), got, ok)
		}
	}
}

func TestWhatIsEscapedHasNoHardBytes(t *testing.T) {
	for _, s := range names() {
		for style := 3; style <= 5; style++ {
			for _, k := range tokens(Quote(style, s)) {
				if k.isHard {
					t.Fatalf("Quote(%d, %q): %q", style, s, Quote(style, s))
				}
			}
		}
	}
}

func FuzzQuote(f *testing.F) {
	for _, s := range pieces() {
		f.Add(s)
	}
	f.Fuzz(func(t *testing.T, s string) {
		againstGrammar(t, s)
		for style, want := range spelled(s) {
			got := Quote(style, s)
			if got != want {
				t.Fatalf("Quote(%d, %q): %q, want %q", style, s, got, want)
			}
			againstGrammar(t, got)
		}
	})
}
