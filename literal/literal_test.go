package literal_test

import (
	"regexp"
	"slices"
	"strings"
	"testing"
	"unsafe"

	"quillwort/api"
	"quillwort/literal"
	"quillwort/modes"
	"quillwort/parts"
)

// plain, quoted, expand and inside make pieces: one that stands for itself, one that is quoted, one that is to be expanded, and such a one within a Double.
func plain(s string) api.Piece  { return api.Piece{Text: s} }
func quoted(s string) api.Piece { return api.Piece{Quoted: true, Text: s} }
func expand(s string) api.Piece { return api.Piece{Expand: true, Text: s} }
func inside(s string) api.Piece { return api.Piece{Expand: true, Quoted: true, Text: s} }

// row is a row of pieces.
func row(l ...api.Piece) []api.Piece { return l }

// spelled is a row of pieces as text.
func spelled(l []api.Piece) string {
	var w strings.Builder
	for _, p := range l {
		switch {
		case p.Expand && p.Quoted:
			w.WriteString(" inside ")
		case p.Expand:
			w.WriteString(" expand ")
		case p.Quoted:
			w.WriteString(" quoted ")
		default:
			w.WriteString(" plain ")
		}
		w.WriteString("[" + p.Text + "]")
	}
	return w.String()
}

// texted are texts, and their pieces.
var texted = []struct {
	s      string
	pieces []api.Piece
}{
	{`a'b'c"d\"e"\f`, row(plain("a"), quoted("b"), plain("c"), quoted(`d"e`), quoted("f"))}, // the chapter's example; the space in what it answers there stands nowhere in the text

	{"", nil}, // no part
	{"a", row(plain("a"))},
	{"a b\n\tc", row(plain("a b\n\tc"))},
	{"a;(b)|{c}>d&*?[!]~=", row(plain("a;(b)|{c}>d&*?[!]~="))},
	{"a#b", row(plain("a#b"))},
	{"}", row(plain("}"))},
	{")", row(plain(")"))},

	{"a'b'", row(plain("a"), quoted("b"))}, // plain bytes ahead of, between and behind parts
	{"'a'b", row(quoted("a"), plain("b"))},
	{"'a'b'c'", row(quoted("a"), plain("b"), quoted("c"))},
	{"ab'cd'ef\\gh\"ij\"kl$mn.op`qr`st", row(plain("ab"), quoted("cd"), plain("ef"), quoted("g"), plain("h"), quoted("ij"), plain("kl"), expand("$mn"), plain(".op"), expand("`qr`"), plain("st"))},

	{"a #b\nc", row(plain("a #b\nc"))}, // plain bytes that are one piece
	{"a$ b", row(plain("a$ b"))},
	{"a$", row(plain("a$"))},
	{"a $ #$ b\n$ c", row(plain("a $ #$ b\n$ c"))},
	{"$ $.$", row(plain("$ $.$"))},
	{"a\\\nb", row(plain("ab"))},
	{"a\\\n\\\n$\\\n #b", row(plain("a$ #b"))},
	{"a\\", row(plain("a"))},

	{"$", row(plain("$"))}, // a Dollar of one byte
	{"$ a", row(plain("$ a"))},
	{"$.", row(plain("$."))},
	{"$\n", row(plain("$\n"))},
	{"$)", row(plain("$)"))},
	{"$}", row(plain("$}"))},
	{"$\x00", row(plain("$\x00"))},
	{"$\xff", row(plain("$\xff"))},
	{"$'a'", row(plain("$"), quoted("a"))},
	{"$\"a\"", row(plain("$"), quoted("a"))},
	{"$\\a", row(plain("$"), quoted("a"))},
	{"$\\\n{a}", row(plain("${a}"))},
	{"$`a`", row(plain("$"), expand("`a`"))},
	{"$$$", row(expand("$$"), plain("$"))},

	{"#a\n", row(plain("#a\n"))}, // a Comment
	{"#a", row(plain("#a"))},
	{"#", row(plain("#"))},
	{"#\n", row(plain("#\n"))},
	{"a #'b'\"c\"\\d$e`f`$(g)\nh", row(plain("a #'b'\"c\"\\d$e`f`$(g)\nh"))},
	{"'a' #'b'\n'c'", row(quoted("a"), plain(" #'b'\n"), quoted("c"))},
	{"#a\\\n'b'", row(plain("#a\\\n"), quoted("b"))},
	{"\\\n#'a'", row(plain("#'a'"))},
	{"''#'a'", row(quoted(""), plain("#"), quoted("a"))},

	{"\\a", row(quoted("a"))}, // an Escape
	{"a\\bc", row(plain("a"), quoted("b"), plain("c"))},
	{"\\\\", row(quoted("\\"))},
	{"\\'a", row(quoted("'"), plain("a"))},
	{"\\\"\\$\\`\\#", row(quoted("\""), quoted("$"), quoted("`"), quoted("#"))},
	{"\\$a", row(quoted("$"), plain("a"))},
	{"\\ \\\t", row(quoted(" "), quoted("\t"))},
	{"\\\n", nil},
	{"\\", nil},
	{"\\\n\\", nil},
	{"\\\\\\", row(quoted("\\"))},
	{"\\\n'a'\\\n", row(quoted("a"))},
	{"\\a\\\nb", row(quoted("a"), plain("b"))},

	{"'a'", row(quoted("a"))}, // a Single
	{"'a", row(quoted("a"))},
	{"''", row(quoted(""))},
	{"'", row(quoted(""))},
	{"a''b", row(plain("a"), quoted(""), plain("b"))},
	{"'\\'", row(quoted("\\"))},
	{"'\\\n'", row(quoted("\\\n"))},
	{"'$a`b`\"c\"#d\n'", row(quoted("$a`b`\"c\"#d\n"))},

	{"\"a\"", row(quoted("a"))}, // a Double in which nothing expands
	{"\"a", row(quoted("a"))},
	{"\"\"", row(quoted(""))},
	{"\"", row(quoted(""))},
	{"a\"\"b", row(plain("a"), quoted(""), plain("b"))},
	{"\"a'b'c #d\ne(f)}*\"", row(quoted("a'b'c #d\ne(f)}*"))},
	{"\"\\$a\"", row(quoted("$a"))},
	{"\"\\`a\\`\"", row(quoted("`a`"))},
	{"\"\\\"a\\\"\"", row(quoted("\"a\""))},
	{"\"\\\\\"", row(quoted("\\"))},
	{"\"\\\\n\"", row(quoted("\\n"))},
	{"\"a\\\nb\"", row(quoted("ab"))},
	{"\"\\\n\"", row(quoted(""))},
	{"\"\\a\"", row(quoted("\\a"))},
	{"\"\\'\"", row(quoted("\\'"))},
	{"\"\\ \\*\\#\\(\\}\"", row(quoted("\\ \\*\\#\\(\\}"))},
	{"\"\\\x00\\\xff\"", row(quoted("\\\x00\\\xff"))},
	{"\"a\\", row(quoted("a"))},
	{"\"\\", row(quoted(""))},
	{"\"\\\n\\", row(quoted(""))},
	{"\"a\\\\\\", row(quoted("a\\"))},
	{"\"\\${a}\\$(b)\\\\\\$c\"", row(quoted("${a}$(b)\\$c"))},

	{"\"$\"", row(quoted("$"))}, // a Dollar of one byte in it
	{"\"$", row(quoted("$"))},
	{"\"a$.b\"", row(quoted("a$.b"))},
	{"\"$ $'\"", row(quoted("$ $'"))},
	{"\"$\\$\"", row(quoted("$$"))},
	{"\"$\\\nb$\"", row(quoted("$b$"))},
	{"\"$$$\"", row(inside("$$"), quoted("$"))},
	{"\"$$a$b$\"", row(inside("$$"), quoted("a"), inside("$b"), quoted("$"))},

	{"\"$a\"", row(inside("$a"))}, // a Double in which something expands
	{"\"$a.b\"", row(inside("$a"), quoted(".b"))},
	{"\"a$b.c\"", row(quoted("a"), inside("$b"), quoted(".c"))},
	{"\"a$b\"", row(quoted("a"), inside("$b"))},
	{"\"$a$b\"", row(inside("$a"), inside("$b"))},
	{"\"$a`b`$(c)${d}$((e))\"", row(inside("$a"), inside("`b`"), inside("$(c)"), inside("${d}"), inside("$((e))"))},
	{"\"a$b c$d e\"", row(quoted("a"), inside("$b"), quoted(" c"), inside("$d"), quoted(" e"))},
	{"\"a$b", row(quoted("a"), inside("$b"))},
	{"\"$a.b", row(inside("$a"), quoted(".b"))},
	{"\"\\\n$a\\\n\"", row(inside("$a"))},
	{"\"$a\\\n$b\"", row(inside("$a"), inside("$b"))},
	{"\"$a\\", row(inside("$a"))},
	{"\"\\$$a\\$\"", row(quoted("$"), inside("$a"), quoted("$"))},
	{"\"\\a$b\\\"\\\\\"", row(quoted("\\a"), inside("$b"), quoted("\"\\"))},
	{"\"$a\"\"$b\"", row(inside("$a"), inside("$b"))},
	{"\"$a\"$b\"\"", row(inside("$a"), expand("$b"), quoted(""))},

	{"$a", row(expand("$a"))}, // each part that expands
	{"$ab1.", row(expand("$ab1"), plain("."))},
	{"$1a", row(expand("$1"), plain("a"))},
	{"$@$*$#$?$-$!$$$0", row(expand("$@"), expand("$*"), expand("$#"), expand("$?"), expand("$-"), expand("$!"), expand("$$"), expand("$0"))},
	{"\"$@$*\"", row(inside("$@"), inside("$*"))},
	{"a$b$c'd'", row(plain("a"), expand("$b"), expand("$c"), quoted("d"))},
	{"x$(a b)y", row(plain("x"), expand("$(a b)"), plain("y"))},
	{"x$(a b", row(plain("x"), expand("$(a b"))},
	{"$(", row(expand("$("))},
	{"$()", row(expand("$()"))},
	{"x\"$(a b)y\"", row(plain("x"), inside("$(a b)"), quoted("y"))},
	{"\"x$(a b", row(quoted("x"), inside("$(a b"))},
	{"\"$(", row(inside("$("))},
	{"x`a b`y", row(plain("x"), expand("`a b`"), plain("y"))},
	{"x`a b", row(plain("x"), expand("`a b"))},
	{"``", row(expand("``"))},
	{"`", row(expand("`"))},
	{"\"x`a b`y\"", row(quoted("x"), inside("`a b`"), quoted("y"))},
	{"\"x`a b", row(quoted("x"), inside("`a b"))},
	{"\"`", row(inside("`"))},
	{"x${a}y", row(plain("x"), expand("${a}"), plain("y"))},
	{"x${a", row(plain("x"), expand("${a"))},
	{"${", row(expand("${"))},
	{"${}", row(expand("${}"))},
	{"\"x${a}y\"", row(quoted("x"), inside("${a}"), quoted("y"))},
	{"\"x${a", row(quoted("x"), inside("${a"))},
	{"\"${", row(inside("${"))},
	{"x$((1))y", row(plain("x"), expand("$((1))"), plain("y"))},
	{"x$((1", row(plain("x"), expand("$((1"))},
	{"$((1)", row(expand("$((1)"))},
	{"$((", row(expand("$(("))},
	{"\"x$((1))y\"", row(quoted("x"), inside("$((1))"), quoted("y"))},
	{"\"x$((1", row(quoted("x"), inside("$((1"))},
	{"\"$((1)", row(inside("$((1)"))},

	{"$(a 'b' \"c\" \\d $e `f` # ' )\n)g", row(expand("$(a 'b' \"c\" \\d $e `f` # ' )\n)"), plain("g"))}, // what stands within one
	{"$(a (b) $(c))d", row(expand("$(a (b) $(c))"), plain("d"))},
	{"`a 'b' \\`c\\` \\\nd $e`f", row(expand("`a 'b' \\`c\\` \\\nd $e`"), plain("f"))},
	{"${a:-'b}'\"c}\"\\}$d}e", row(expand("${a:-'b}'\"c}\"\\}$d}"), plain("e"))},
	{"$((a+(b)*\\\n$c))d", row(expand("$((a+(b)*\\\n$c))"), plain("d"))},
	{"\"a${b:-\"c\\d$e\"'f'}g\"h", row(quoted("a"), inside("${b:-\"c\\d$e\"'f'}"), quoted("g"), plain("h"))},
	{"\"a$(b \"c\" 'd\"' \\\" #\"\n)e\"f", row(quoted("a"), inside("$(b \"c\" 'd\"' \\\" #\"\n)"), quoted("e"), plain("f"))},
	{"\"a`b \\`\\\n\\$\"c\"`d", row(quoted("a"), inside("`b \\`\\\n\\$\"c\"`"), quoted("d"))},
	{"\"$((\\\n\\$a))\"", row(inside("$((\\\n\\$a))"))},
	{"$(\"a", row(expand("$(\"a"))},
	{"${'a", row(expand("${'a"))},
	{"\"${a\"b\\", row(inside("${a\"b\\"))},
	{"\"a$(b 'c", row(quoted("a"), inside("$(b 'c"))},

	{"'a''b'", row(quoted("a"), quoted("b"))}, // quotes that touch each other
	{"''\"\"", row(quoted(""), quoted(""))},
	{"''''''", row(quoted(""), quoted(""), quoted(""))},
	{"'a'\"b\"\\c'd", row(quoted("a"), quoted("b"), quoted("c"), quoted("d"))},
	{"\\a\\b'c'\"d\"\\e", row(quoted("a"), quoted("b"), quoted("c"), quoted("d"), quoted("e"))},
	{"\"a\"\"b\"c", row(quoted("a"), quoted("b"), plain("c"))},
	{"'\"'\"'\"", row(quoted("\""), quoted("'"))},
	{"a'b'\"c$d\"$e\\f\"\"g", row(plain("a"), quoted("b"), quoted("c"), inside("$d"), expand("$e"), quoted("f"), quoted(""), plain("g"))},

	{"\x00", row(plain("\x00"))}, // zero bytes, and bytes of 128 and more
	{"\x80\xff\xc3\xa9", row(plain("\x80\xff\xc3\xa9"))},
	{"'\x00\xff'\x00\\\x80\"\xc3\"\xa9", row(quoted("\x00\xff"), plain("\x00"), quoted("\x80"), quoted("\xc3"), plain("\xa9"))},
	{"\\\xc3\xa9", row(quoted("\xc3"), plain("\xa9"))},
	{"\\\x00a", row(quoted("\x00"), plain("a"))},
	{"$a\xff`\x00`\"\x00${\xff}\x80\"", row(expand("$a"), plain("\xff"), expand("`\x00`"), quoted("\x00"), inside("${\xff}"), quoted("\x80"))},
}

// bare is the text of a row of pieces.
func bare(l []api.Piece) string {
	s := ""
	for _, p := range l {
		s += p.Text
	}
	return s
}

// pattern is the text of a row of pieces, a backslash ahead of each byte that is quoted.
func pattern(l []api.Piece) string {
	var w []byte
	for _, p := range l {
		for i := range len(p.Text) {
			if p.Quoted {
				w = append(w, '\\')
			}
			w = append(w, p.Text[i])
		}
	}
	return string(w)
}

// takes checks what is told of a text against its pieces; false: it is otherwise.
func takes(t *testing.T, s string, l []api.Piece) bool {
	t.Helper()
	ok := true
	if got := literal.Pieces(s); !slices.Equal(got, l) {
		t.Errorf("Pieces(%q)%q, not%q", s, spelled(got), spelled(l))
		ok = false
	}
	if got := literal.Bare(s); got != bare(l) {
		t.Errorf("Bare(%q) %q, not %q", s, got, bare(l))
		ok = false
	}
	has := !slices.ContainsFunc(l, func(p api.Piece) bool { return p.Expand })
	value, shielded := "", ""
	if has {
		value, shielded = bare(l), pattern(l)
	}
	if got, is := literal.Value(s); got != value || is != has {
		t.Errorf("Value(%q) %q, %v, not %q, %v", s, got, is, value, has)
		ok = false
	}
	if got, is := literal.Pattern(s); got != shielded || is != has {
		t.Errorf("Pattern(%q) %q, %v, not %q, %v", s, got, is, shielded, has)
		ok = false
	}
	return ok
}

// P8.1, P8.2, P8.3: the pieces of texts, and what is written of them.
func TestPieces(t *testing.T) {
	for _, c := range texted {
		takes(t, c.s, c.pieces)
	}
}

// P8.1: each byte in each place, by what is told of it there.
func TestBytes(t *testing.T) {
	for b := range 256 {
		one := string([]byte{byte(b)})
		switch {
		case one == "\n":
			takes(t, "\\"+one, nil)
			takes(t, "a\\"+one+"b", row(plain("ab")))
			takes(t, "\"\\"+one+"\"", row(quoted("")))
		case strings.Contains("$`\"\\", one):
			takes(t, "\"\\"+one+"\"", row(quoted(one)))
			takes(t, "\\"+one, row(quoted(one)))
		default:
			takes(t, "\"\\"+one+"\"", row(quoted("\\"+one)))
			takes(t, "\"a\\"+one, row(quoted("a\\"+one)))
			takes(t, "\"\\"+one+"$a\"", row(quoted("\\"+one), inside("$a")))
			takes(t, "\\"+one, row(quoted(one)))
			takes(t, "a\\"+one+"b", row(plain("a"), quoted(one), plain("b")))
		}
		if one != "'" {
			takes(t, "'"+one+"'", row(quoted(one)))
			takes(t, "'"+one, row(quoted(one)))
		}
		if !strings.Contains("\\\"`$", one) {
			takes(t, "\""+one+"\"", row(quoted(one)))
			takes(t, "\""+one, row(quoted(one)))
			takes(t, "a #"+one+"b", row(plain("a #"+one+"b")))
		}
		if !strings.Contains("\\\"`$'", one) {
			takes(t, one, row(plain(one)))
			takes(t, "a"+one+"b", row(plain("a"+one+"b")))
		}
	}
}

// byParts is the pieces of a text by its parts, level by level.
func byParts(s string) []api.Piece {
	l := parts.Of(s)
	var out []api.Piece
	joins := false // behind a plain piece, what is plain belongs to it
	add := func(text string) {
		switch {
		case text == "":
		case joins:
			out[len(out)-1].Text += text
		default:
			out, joins = append(out, plain(text)), true
		}
	}
	own := func(pieces ...api.Piece) {
		if len(pieces) > 0 {
			out, joins = append(out, pieces...), false
		}
	}
	at := 0
	for _, i := range parts.Kids(l, -1) {
		p := l[i]
		add(s[at:p.From])
		at = p.To
		from, to := parts.Inside(p)
		switch text := s[p.From:p.To]; {
		case p.Mode == api.ModeComment, text == "$":
			add(text)
		case p.Mode == api.ModeEscape && (s[from:to] == "" || s[from:to] == "\n"):
		case p.Mode == api.ModeEscape, p.Mode == api.ModeSingle:
			own(quoted(s[from:to]))
		case p.Mode == api.ModeDouble:
			own(doubled(s, l, i)...)
		default:
			own(expand(text))
		}
	}
	add(s[at:])
	return out
}

// escapes writes what an Escape within a Double stands for.
var escapes = strings.NewReplacer("\\$", "$", "\\`", "`", "\\\"", "\"", "\\\\", "\\", "\\\n", "")

// doubled is the pieces of a Double of a text.
func doubled(s string, l []api.Part, double int) []api.Piece {
	from, to := parts.Inside(l[double])
	var out []api.Piece
	text, expands := "", false
	for _, i := range parts.Kids(l, double) {
		p := l[i]
		text += s[from:p.From]
		from = p.To
		switch part := s[p.From:p.To]; {
		case p.Mode == api.ModeEscape && part != "\\":
			text += escapes.Replace(part)
		case p.Mode == api.ModeEscape:
		case part == "$":
			text += part
		default:
			if text != "" {
				out = append(out, quoted(text))
			}
			out, text, expands = append(out, inside(part)), "", true
		}
	}
	text += s[from:to]
	if text != "" || !expands {
		out = append(out, quoted(text))
	}
	return out
}

// element is what a text begins with that has no comment, no backquote and no bracket behind a dollar; escape is what goes, but for a byte, within its double quotes; dollars are what expands in it.
var (
	element = regexp.MustCompile("(?s)^(?:\\\\(.?)|'([^']*)'?|\"((?:[^\"\\\\]|\\\\.?)*)\"?|(\\$(?:[A-Za-z_][A-Za-z_0-9]*|[0-9@*#?$!-]))|([^\\\\'\"]))")
	escape  = regexp.MustCompile("(?s)\\\\(?:\n|([$`\"\\\\])|$)")
	dollars = regexp.MustCompile("\\$(?:[A-Za-z_][A-Za-z_0-9]*|[0-9@*#?$!-])")
)

// byText is the value of such a text, read from left to right without its parts; false: something in it expands.
func byText(s string) (string, bool) {
	out := ""
	for s != "" {
		m := element.FindStringSubmatch(s)
		s = s[len(m[0]):]
		switch m[0][0] {
		case '\\':
			out += strings.TrimPrefix(m[1], "\n")
		case '"':
			lone := regexp.MustCompile("(?s)\\\\.").ReplaceAllString(m[3], ".")
			if dollars.MatchString(lone) {
				return "", false
			}
			out += escape.ReplaceAllString(m[3], "$1")
		case '\'':
			out += m[2]
		default:
			if m[4] != "" {
				return "", false
			}
			out += m[5]
		}
	}
	return out, true
}

// holds checks all that is told of a text; false: it is otherwise.
func holds(t *testing.T, s string) bool {
	t.Helper()
	l := parts.Of(s)
	quotes := slices.ContainsFunc(l, func(p api.Part) bool {
		return p.Up < 0 && (p.Mode == api.ModeEscape || p.Mode == api.ModeSingle || p.Mode == api.ModeDouble)
	})
	if got := literal.Quotes(s); got != quotes {
		t.Errorf("Quotes(%q) %v", s, got)
		return false
	}
	if value, has := literal.Value(s); has == parts.Expands(s) {
		t.Errorf("Value(%q) %q, %v", s, value, has)
		return false
	}
	return takes(t, s, byParts(s))
}

// all are all texts of at most so many bytes of those.
func all(those string, most int) []string {
	l := []string{""}
	for from := 0; most > 0; most-- {
		for to := len(l); from < to; from++ {
			for i := range len(those) {
				l = append(l, l[from]+those[i:i+1])
			}
		}
	}
	return l
}

// turning are the bytes that turn something, and some that don't.
const turning = "\\'\"`$#(){}\n a"

// P8.1, P8.2, P8.3: all short texts, at the beginning and within each mode.
func TestTexts(t *testing.T) {
	for _, c := range texted {
		holds(t, c.s)
	}
	l := append(all(turning, 4), all("\"\\$\na", 6)...)
	l = append(l, all("\"\\`'a", 6)...)
	for _, into := range []string{"a ", "'", "\"", "`", "#", "\\", "$", "${", "\"${", "$(", "$(a(", "$((", "$((a)", "\"$(", "\"$((", "\"a$b", "'a'", "a$ #b\n", "\"`", "\"${a\""} {
		for _, s := range all(turning, 3) {
			l = append(l, into+s, s+into)
		}
	}
	for _, s := range l {
		if !holds(t, s) {
			return // the rest would tell the same, thousands of times
		}
	}
}

// P8.2: all short texts in which only quotes and parameters are, read without their parts.
func TestRead(t *testing.T) {
	for _, s := range append(all("\\'\"$\n a", 5), all("\\'\"\xff\x00\n1$", 4)...) {
		want, has := byText(s)
		if got, is := literal.Value(s); got != want || is != has {
			t.Errorf("Value(%q) %q, %v, not %q, %v", s, got, is, want, has)
			return
		}
	}
}

// P8.1: Bare, where something is to be expanded and where nothing is.
func TestBare(t *testing.T) {
	for _, c := range []struct{ s, bare string }{
		{"", ""},
		{"a", "a"},
		{"a'b'c", "abc"},
		{"''\"\"\\\n", ""},
		{"\"a\\$b\\c\"\\d", "a$b\\cd"},
		{"'a\\b'\"'\"", "a\\b'"},
		{"#'a'\n'b'", "#'a'\nb"},
		{"$", "$"},
		{"\x00'\xff'", "\x00\xff"},
		{"$a", "$a"},
		{"'a'$b\"c$d\"", "a$bc$d"},
		{"\"$(a \"b\")\"'c'", "$(a \"b\")c"},
		{"${a'}'}\"b", "${a'}'}b"},
		{"`'a'", "`'a'"},
		{"\"\\$a$a\\\n\"", "$a$a"},
	} {
		if got := literal.Bare(c.s); got != c.bare {
			t.Errorf("Bare(%q) %q, not %q", c.s, got, c.bare)
		}
	}
}

// P8.2: the values of texts.
func TestValue(t *testing.T) {
	for _, c := range []struct{ s, value string }{
		{`a'b'c"d\"e"\f`, `abcd"ef`},
		{"", ""},
		{"a b", "a b"},
		{"''", ""},
		{"\"\"", ""},
		{"\\", ""},
		{"\\\n", ""},
		{"a\\\nb", "ab"},
		{"\\a\\'\\\\", "a'\\"},
		{"'$a`b`${c}$(d)$((e))'", "$a`b`${c}$(d)$((e))"},
		{"\"\\$a\\`b\\`\\${c}\\$(d)\"", "$a`b`${c}$(d)"},
		{"\\$a\\`b\\`", "$a`b`"},
		{"$ \"$\"$", "$ $$"},
		{"#$a `b", "#$a `b"},
		{"'a", "a"},
		{"\"a", "a"},
		{"\"a\\", "a"},
		{"\x00\"\xff\"'\x80'", "\x00\xff\x80"},
	} {
		if got, ok := literal.Value(c.s); got != c.value || !ok {
			t.Errorf("Value(%q) %q, %v, not %q", c.s, got, ok, c.value)
		}
	}
	for _, s := range expanding {
		if got, ok := literal.Value(s); got != "" || ok {
			t.Errorf("Value(%q) %q, %v", s, got, ok)
		}
	}
}

// expanding are texts with a piece that is to be expanded.
var expanding = []string{"$a", "a$1", "$@b", "$$", "$(a)", "$(", "a`b`", "`", "${a}", "${", "$((1))", "$((1", "\"$a\"", "\"a$b", "\"`a`\"", "\"$(a)\"b", "\"${", "\"$((1))\"", "'a'$b", "'a'\"\\$$b\"", "#a\n$b", "*\\*$a", "\x00$a"}

// P8.1: whether something is quoted.
func TestQuotes(t *testing.T) {
	for _, c := range []struct {
		s    string
		want bool
	}{
		{"\\a", true},
		{"a\\", true},
		{"\\\n", true},
		{"a\\\nb", true},
		{"'a'", true},
		{"'", true},
		{"a''", true},
		{"\"a\"", true},
		{"\"", true},
		{"\"\"a", true},
		{"\"$a\"", true},
		{"'\\'", true},
		{"\"\\a\"", true},
		{"'\"'", true},
		{"$a'b'", true},
		{"$(a)\\b", true},
		{"`a`\"\"", true},
		{"$''", true},
		{"#a\n''", true},
		{"\x00\\\xff", true},

		{"", false},
		{"a b", false},
		{"$a", false},
		{"$", false},
		{"${a}`b`$(c)$((d))", false},
		{"#'a'\"b\"\\c", false},
		{"$(\\a)", false},
		{"$('a')", false},
		{"$(\"a\")", false},
		{"$('a", false},
		{"$(a (\\b))", false},
		{"`\\``", false},
		{"`'a'\"b\"`", false},
		{"`\\", false},
		{"${a\\}}", false},
		{"${a'}'}", false},
		{"${a\"}\"}", false},
		{"${a\"$('b", false},
		{"$((\\1))", false},
		{"$(((\\1)))", false},
		{"\x00\x80\xff", false},
	} {
		if got := literal.Quotes(c.s); got != c.want {
			t.Errorf("Quotes(%q) %v", c.s, got)
		}
	}
}

// P8.3: texts as patterns.
func TestPattern(t *testing.T) {
	for _, c := range []struct{ s, pattern string }{
		{"", ""},
		{"a*?[!b-c]", "a*?[!b-c]"},
		{"'a*?[!b-c]'", "\\a\\*\\?\\[\\!\\b\\-\\c\\]"},
		{"\"*\"*'?'?\\[[", "\\**\\??\\[["},
		{"\\*", "\\*"},
		{"*\\\n*", "**"},
		{"\\\\", "\\\\"},
		{"'\\'", "\\\\"},
		{"'\\*'", "\\\\\\*"},
		{"\"\\*\"", "\\\\\\*"},
		{"\"\\\\*\"", "\\\\\\*"},
		{"\"\\$\\\n*\"", "\\$\\*"},
		{"#\\*\n\\*", "#\\*\n\\*"}, // a backslash that is plain, since it is a comment's
		{"''*\"\"", "*"},
		{"\\", ""},
		{"$'*'", "$\\*"},
		{"\"$\"*", "\\$*"},
		{"'a", "\\a"},
		{"\"a", "\\a"},
		{"\x00'\x00'\xff\"\xff\\\x80\"", "\x00\\\x00\xff\\\xff\\\\\\\x80"},
		{"'\xc3\xa9\n'", "\\\xc3\\\xa9\\\n"},
	} {
		if got, ok := literal.Pattern(c.s); got != c.pattern || !ok {
			t.Errorf("Pattern(%q) %q, %v, not %q", c.s, got, ok, c.pattern)
		}
	}
	for _, s := range expanding {
		if got, ok := literal.Pattern(s); got != "" || ok {
			t.Errorf("Pattern(%q) %q, %v", s, got, ok)
		}
	}
}

// P8.4: values of texts one behind the other, where nothing is open behind the first one, and the second one has no #.
func TestBehind(t *testing.T) {
	for _, c := range []struct{ first, second string }{
		{"", ""},
		{"a", "b"},
		{"'a'", "'b'"},
		{"\"a\"", "\"b\\\""},
		{"''", "'a"},
		{"\\a", "\\"},
		{"\\\n", "\\b"},
		{"#'a'\n", "'b'"},
		{"a$.", "$"},
		{"\x00'\xff'", "\"\x80\""},
	} {
		first, ok := literal.Value(c.first)
		second, is := literal.Value(c.second)
		if both, has := literal.Value(c.first + c.second); both != first+second || !ok || !is || !has {
			t.Errorf("Value(%q) %q, Value(%q) %q, both %q, %v %v %v", c.first, first, c.second, second, both, ok, is, has)
		}
	}
	l := all("\\'\"$#(\n a", 3)
	shut, pairs := 0, 0
	for _, s := range l {
		if frames, _ := modes.Run(s); len(frames) > 1 {
			continue
		}
		shut++
		first, ok := literal.Value(s)
		for _, more := range l {
			second, is := literal.Value(more)
			if !ok || !is || strings.Contains(more, "#") {
				continue
			}
			pairs++
			if both, has := literal.Value(s + more); both != first+second || !has {
				t.Errorf("Value(%q) %q, Value(%q) %q, both %q, %v", s, first, more, second, both, has)
				return
			}
		}
	}
	if shut < 100 || pairs < 10000 {
		t.Errorf("%d texts behind which nothing is open, %d pairs", shut, pairs)
	}
}

// P8.4: where something is open behind the first text, or the second one has a #, the value of both may be another one than what they have alone, or there may be none.
func TestOpen(t *testing.T) {
	for _, c := range []struct {
		first, second, alone, both string
		has                        bool
	}{
		{"\\", "'a'", "a", "'a", true},
		{"\\", "\na", "\na", "a", true},
		{"'", "\"a\"", "a", "\"a\"", true},
		{"'a", "'b'", "ab", "ab", true}, // it may be the same, too
		{"'", "\\a", "a", "\\a", true},
		{"'", "a", "a", "a", true},
		{"\"", "'a'", "a", "'a'", true},
		{"\"", "\\a", "a", "\\a", true},
		{"\"", "\\\"a", "\"a", "\"a", true},
		{"\"\\", "'a'", "a", "\\'a'", true},
		{"#", "'a'", "#a", "#'a'", true},
		{"a #", "\\b\n\\c", "a #b\nc", "a #\\b\nc", true},
		{"$", "a", "$a", "", false},
		{"$", "(a)", "$(a)", "", false},
		{"$", "{a}", "${a}", "", false},
		{"$", "$", "$$", "", false},
		{"$", ".", "$.", "$.", true},
		{"\"$", "a", "$a", "", false},
		{"a", "#'b'", "a#'b'", "a#b", true},
		{"''", "#\\b", "#\\b", "#b", true},
		{"a ", "#'b'", "a #'b'", "a #'b'", true},
		{"a", "#\\\n#'b'", "a#\\\n#'b'", "a##b", true},
	} {
		first, ok := literal.Value(c.first)
		second, is := literal.Value(c.second)
		if first+second != c.alone || !ok || !is {
			t.Errorf("Value(%q) %q, Value(%q) %q, %v %v", c.first, first, c.second, second, ok, is)
		}
		if both, has := literal.Value(c.first + c.second); both != c.both || has != c.has {
			t.Errorf("Value(%q) %q, %v, not %q", c.first+c.second, both, has, c.both)
		}
	}
}

// P1: long texts, and parts that lie deep within each other.
func TestLong(t *testing.T) {
	const n = 300
	long := strings.Repeat("a", api.MaxText+10)
	takes(t, long, row(plain(long)))
	takes(t, "'"+long, row(quoted(long)))
	takes(t, "\""+long+"\"", row(quoted(long)))
	takes(t, "$"+long+".", row(expand("$"+long), plain(".")))
	takes(t, "#"+long+"\n"+long, row(plain("#"+long+"\n"+long)))
	deep := strings.Repeat("\"${a$(b(`\\``", n)
	takes(t, deep, row(inside(deep[1:])))
	takes(t, deep+strings.Repeat("))}\"", n)+"c", row(inside(deep[1:]+strings.Repeat("))}\"", n-1)+"))}"), plain("c")))
	var many []api.Piece
	for range n {
		many = append(many, quoted("a"), quoted(""), plain("b"), quoted("c"), inside("$d"), expand("$e"))
	}
	takes(t, strings.Repeat("\\a''b\"c$d\"$e", n), many)
	if got, ok := literal.Value(strings.Repeat("\\\n", n)); got != "" || !ok {
		t.Errorf("%q, %v", got, ok)
	}
}

// R4: an answer is new, and what is handed in is as it was.
func TestMemory(t *testing.T) {
	const s = "ab'cd'$ef\"gh${ij}\""
	text := strings.Clone(s)
	l := literal.Pieces(text)
	if want := row(plain("ab"), quoted("cd"), expand("$ef"), quoted("gh"), inside("${ij}")); !slices.Equal(l, want) {
		t.Fatalf("%s", spelled(l))
	}
	first := strings.Clone(text[:2])
	for _, p := range append(slices.Clone(l), plain(literal.Bare(first))) {
		for _, handed := range []string{text, first} {
			if at := strings.Index(handed, p.Text); at >= 0 && unsafe.StringData(p.Text) == unsafe.StringData(handed[at:]) {
				t.Errorf("%q lies in the text", p.Text)
			}
		}
	}
	for i := range l[:cap(l)] {
		l[:cap(l)][i] = api.Piece{Text: "?"}
	}
	for range 2 {
		if !takes(t, text, byParts(s)) || text != s {
			t.Errorf("then otherwise: %q", text)
		}
	}
}
