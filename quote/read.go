package quote

import "strings"

// Shell tells what a shell reads s as.
func Shell(s string) (string, bool) {
	var out []byte
	var b byte
	var size int
	if s == "" {
		return "", false
	}

part:
	switch {
	case s == "":
		return string(out), true
	case s[0] == '\'':
		s = s[1:]
		goto quoted
	case strings.HasPrefix(s, `\'`):
		out = append(out, '\'')
		s = s[2:]
		goto part
	case strings.HasPrefix(s, "$'"):
		s = s[2:]
		goto escapes
	}
	if k, n := first(s); k == plain {
		out = append(out, s[:n]...)
		s = s[n:]
		goto part
	}
	return "", false

quoted:
	size = strings.IndexByte(s, '\'')
	if size < 0 {
		return "", false
	}
	out = append(out, s[:size]...)
	s = s[size+1:]
	goto part

escapes:
	if strings.HasPrefix(s, "'") {
		s = s[1:]
		goto part
	}
	b, size = readEscape(s)
	if size == 0 {
		return "", false
	}
	out = append(out, b)
	s = s[size:]
	goto escapes
}

// C tells what C reads s as.
func C(s string) (string, bool) {
	var out []byte
	var b byte
	var size int
	if s == "" || s[0] != '"' {
		return "", false
	}
	s = s[1:]

inside:
	switch {
	case s == "":
		return "", false
	case s[0] == '"':
		goto end
	case s[0] == '\\':
		goto backslash
	}
	out = append(out, s[0])
	s = s[1:]
	goto inside

backslash:
	if strings.HasPrefix(s, `\"`) || strings.HasPrefix(s, `\\`) {
		b, size = s[1], 2
	} else {
		b, size = readEscape(s)
	}
	if size == 0 {
		return "", false
	}
	out = append(out, b)
	s = s[size:]
	goto inside

end:
	// Nothing may stand behind the last quote.
	if s != `"` {
		return "", false
	}
	return string(out), true
}

// readEscape tells the byte of the escape with which s begins, and how long
// it is; 0, if there is none.
func readEscape(s string) (byte, int) {
	switch {
	case strings.HasPrefix(s, `\n`):
		return '\n', 2
	case strings.HasPrefix(s, `\t`):
		return '\t', 2
	case len(s) < 4 || s[0] != '\\' || s[1] > '3':
		// Three digits of which the first is above 3 are above 377.
		return 0, 0
	}
	var b byte
	for i := 1; i < 4; i++ {
		if s[i] < '0' || s[i] > '7' {
			return 0, 0
		}
		b = b<<3 | (s[i] - '0')
	}
	return b, 4
}
