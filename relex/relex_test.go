package relex_test

import (
	"math"
	"slices"
	"strconv"
	"strings"
	"testing"
	"unsafe"

	"quillwort/api"
	"quillwort/edit"
	"quillwort/relex"
	"quillwort/token"
)

// plain is a text, its tokens, and the lexings ahead of each of them and behind all, as layer 9 tells them of the text alone.
type plain struct {
	text   string
	tokens []api.Token
	ahead  []api.Lexing
}

// lexed is what a text is plainly.
func lexed(s string) plain {
	p := plain{text: s, ahead: make([]api.Lexing, 1)}
	p.tokens, _ = token.Lex(s)
	for n, t := range p.tokens {
		_, x := token.Step(s, t.From, p.ahead[n])
		p.ahead = append(p.ahead, x)
	}
	return p
}

// keeps is what an edit that leads from one text to another one keeps, by the chapter's words.
func keeps(was, now plain, e api.Edit) (k api.Kept) {
	for _, t := range was.tokens {
		if t.To <= e.At-2 {
			k.Head++
		}
	}
	begin := map[int]int{} // the numbers of the new tokens, by where they begin
	for n, t := range now.tokens {
		begin[t.From] = n
	}
	for n, t := range was.tokens {
		if t.From < e.At+len(e.Del) {
			continue
		}
		m, there := begin[t.From-len(e.Del)+len(e.Ins)]
		if there && same(was.ahead[n], now.ahead[m]) {
			k.Tail = len(was.tokens) - n
			return k
		}
	}
	return k
}

// same tells whether two lexings are the same, without layer 9.
func same(a, b api.Lexing) bool {
	return a.Await == b.Await && a.Body == b.Body && slices.Equal(a.Pend, b.Pend)
}

// spelled is a lexing as text.
func spelled(x api.Lexing) string {
	s := strconv.Itoa(x.Await) + " " + strconv.FormatBool(x.Body)
	for _, d := range x.Pend {
		s += " " + strconv.Quote(d.Word) + " " + strconv.FormatBool(d.Tabs)
	}
	return s
}

// shown is an edit as text.
func shown(e api.Edit) string {
	return strconv.Itoa(e.At) + " " + quoted(e.Del) + " " + quoted(e.Ins)
}

// quoted is a text as one can read it; of a long one the beginning.
func quoted(s string) string {
	if len(s) > 200 {
		return strconv.Quote(s[:200]) + " and " + strconv.Itoa(len(s)-200) + " bytes"
	}
	return strconv.Quote(s)
}

// far are numbers outside of any row, and places outside of any text.
var far = []int{math.MinInt, math.MinInt + 1, -api.MaxText, -2, -1, api.MaxText + 1, math.MaxInt - 1, math.MaxInt}

// opened is a lexed text.
func opened(t *testing.T, s string) *relex.Doc {
	t.Helper()
	d, bad := relex.New(s)
	if d == nil || bad != api.OK {
		t.Fatalf("New of %d bytes: %d", len(s), bad)
	}
	return d
}

// is checks that all a Doc tells is what a text is plainly; false: it is otherwise.
func is(t *testing.T, what string, d *relex.Doc, p plain) bool {
	t.Helper()
	what += ": " + quoted(p.text)
	if s := d.Text(); s != p.text {
		t.Errorf("%s: the text is %s", what, quoted(s))
		return false
	}
	if l := d.Tokens(); !slices.Equal(l, p.tokens) {
		t.Errorf("%s: tokens %v, not %v", what, l, p.tokens)
		return false
	}
	if l, want := d.Leaves(), token.Leaves(p.text, p.tokens); !slices.Equal(l, want) {
		t.Errorf("%s: leaves %v, not %v", what, l, want)
		return false
	}
	last := len(p.tokens)
	if x := d.Lexing(); !same(x, p.ahead[last]) {
		t.Errorf("%s: Lexing %s, not %s", what, spelled(x), spelled(p.ahead[last]))
		return false
	}
	for n := range last {
		if x, ok := d.Ahead(n); !ok || !same(x, p.ahead[n]) {
			t.Errorf("%s: Ahead(%d) %s, %t, not %s", what, n, spelled(x), ok, spelled(p.ahead[n]))
			return false
		}
	}
	for _, n := range append([]int{last, last + 1, last + 2}, far...) {
		if n >= 0 && n < last {
			continue
		}
		if x, ok := d.Ahead(n); ok || !same(x, api.Lexing{}) {
			t.Errorf("%s: Ahead(%d) %s, %t", what, n, spelled(x), ok)
			return false
		}
	}
	return true
}

// applied checks what an edit that goes with a Doc keeps, and all that the Doc tells then, which is told back; false: it is otherwise.
func applied(t *testing.T, d *relex.Doc, was plain, e api.Edit) (plain, bool) {
	t.Helper()
	s, bad := edit.Do(was.text, e)
	if bad != api.OK {
		t.Fatalf("%s: %s doesn't go", quoted(was.text), shown(e))
	}
	now := lexed(s)
	return now, leads(t, d, was, now, e)
}

// leads is applied, where it is known what the text is plainly then.
func leads(t *testing.T, d *relex.Doc, was, now plain, e api.Edit) bool {
	t.Helper()
	what := quoted(was.text) + " by " + shown(e)
	k, bad := d.Apply(e)
	if want := keeps(was, now, e); k != want || bad != api.OK {
		t.Errorf("%s: kept %v, %d, not %v", what, k, bad, want)
		return false
	}
	if !stay(was, now, k, len(now.text)-len(was.text)) {
		t.Errorf("%s: kept %v, but %v aren't %v there", what, k, now.tokens, was.tokens)
		return false
	}
	return is(t, what, d, now)
}

// stay tells whether what is kept is in both rows of tokens, the last ones moved.
func stay(was, now plain, k api.Kept, more int) bool {
	n, m := len(was.tokens), len(now.tokens)
	if k.Head+k.Tail > min(n, m) || !slices.Equal(was.tokens[:k.Head], now.tokens[:k.Head]) {
		return false
	}
	for i := range k.Tail {
		t := was.tokens[n-1-i]
		t.From += more
		t.To += more
		if t != now.tokens[m-1-i] {
			return false
		}
	}
	return true
}

// texts are all texts of at most so many pieces of those, put together.
func texts(pieces []string, most int) []string {
	all := []string{""}
	for from := 0; most > 0; most-- {
		for to := len(all); from < to; from++ {
			for _, p := range pieces {
				all = append(all, all[from]+p)
			}
		}
	}
	return all
}

// letters are a text's bytes, a text each.
func letters(s string) []string {
	return strings.Split(s, "")
}

// put is an edit that puts a text in, cut one that takes one away, and turn one that does both.
func put(at int, ins string) api.Edit       { return api.Edit{At: at, Ins: ins} }
func cut(at int, del string) api.Edit       { return api.Edit{At: at, Del: del} }
func turn(at int, del, ins string) api.Edit { return api.Edit{At: at, Del: del, Ins: ins} }

// P10.1: texts, and the lexings ahead of their tokens, the last of them behind all, as hands wrote them.
func TestNew(t *testing.T) {
	e, f := api.Delim{Word: "E"}, api.Delim{Word: "F", Tabs: true}
	var none api.Lexing
	for _, c := range []struct {
		s     string
		ahead []api.Lexing
	}{
		{"", []api.Lexing{none}},
		{"a", []api.Lexing{none, none}},
		{" ", []api.Lexing{none, none}},
		{"a b", []api.Lexing{none, none, none, none}},
		{"'a", []api.Lexing{none, none}},
		{"<<", []api.Lexing{none, {Await: 4}}},
		{"<<- ", []api.Lexing{none, {Await: 5}, {Await: 5}}},
		{"<< #", []api.Lexing{none, {Await: 4}, {Await: 4}, none}},
		{"<<E", []api.Lexing{none, {Await: 4}, {Pend: []api.Delim{e}}}},
		{"<<-'F'", []api.Lexing{none, {Await: 5}, {Pend: []api.Delim{f}}}},
		{"<<E\n", []api.Lexing{none, {Await: 4}, {Pend: []api.Delim{e}}, {Pend: []api.Delim{e}, Body: true}}},
		{"<<E\nx", []api.Lexing{none, {Await: 4}, {Pend: []api.Delim{e}}, {Pend: []api.Delim{e}, Body: true}, {Pend: []api.Delim{e}, Body: true}}},
		{"<<E\nE", []api.Lexing{none, {Await: 4}, {Pend: []api.Delim{e}}, {Pend: []api.Delim{e}, Body: true}, none}},
		{"<<E<<-F\nE\n\tF\na", []api.Lexing{
			none, {Await: 4}, {Pend: []api.Delim{e}}, {Await: 5, Pend: []api.Delim{e}}, {Pend: []api.Delim{e, f}},
			{Pend: []api.Delim{e, f}, Body: true}, {Pend: []api.Delim{f}, Body: true}, none, none,
		}},
		{"<<E<<E<<-F\nE\nE\nF", []api.Lexing{
			none, {Await: 4}, {Pend: []api.Delim{e}}, {Await: 4, Pend: []api.Delim{e}}, {Pend: []api.Delim{e, e}}, {Await: 5, Pend: []api.Delim{e, e}}, {Pend: []api.Delim{e, e, f}},
			{Pend: []api.Delim{e, e, f}, Body: true}, {Pend: []api.Delim{e, f}, Body: true}, {Pend: []api.Delim{f}, Body: true}, none,
		}},
		{"<<E\nE\n<<-F\n", []api.Lexing{
			none, {Await: 4}, {Pend: []api.Delim{e}}, {Pend: []api.Delim{e}, Body: true},
			none, {Await: 5}, {Pend: []api.Delim{f}}, {Pend: []api.Delim{f}, Body: true},
		}},
	} {
		d := opened(t, c.s)
		tokens, _ := token.Lex(c.s)
		is(t, "new", d, plain{text: c.s, tokens: tokens, ahead: c.ahead})
	}
	d := opened(t, "a 2>b\n")
	leaves := []api.Leaf{
		{Kind: api.TokWord, Text: "a", From: 0, To: 1}, {Kind: api.TokNumber, Text: "2", From: 2, To: 3}, {Kind: api.TokOper, Text: ">", From: 3, To: 4},
		{Kind: api.TokWord, Text: "b", From: 4, To: 5}, {Kind: api.TokNewline, Text: "\n", From: 5, To: 6},
	}
	if l := d.Leaves(); !slices.Equal(l, leaves) {
		t.Errorf("%v", l)
	}
}

// P10.1: all short texts, and all single bytes beside others.
func TestTexts(t *testing.T) {
	l := append(texts(letters(" \n\\#<>-&;1a'$"), 4), texts([]string{"<<", "<<-", "a", "b", "\n", "\t", " "}, 5)...)
	for b := range 256 {
		s := string([]byte{byte(b)})
		l = append(l, s, s+s, "a"+s+"a", "<<"+s+"\na"+s+"\n"+s+"\na")
	}
	for _, s := range l {
		if !is(t, "new", opened(t, s), lexed(s)) {
			return // the rest would tell the same, thousands of times
		}
	}
}

// P10.1: the longest text, and one that is too long.
func TestLarge(t *testing.T) {
	for _, s := range []string{strings.Repeat("a", api.MaxText), strings.Repeat("a <b\n<<c\nd\nc\n;#", api.MaxText/16) + strings.Repeat("'", api.MaxText%16)} {
		s += strings.Repeat("\x00", api.MaxText-len(s))
		is(t, "long", opened(t, s), lexed(s))
		for _, more := range []string{"a", "\n", s} {
			if d, bad := relex.New(s + more); d != nil || bad != api.ErrLarge {
				t.Errorf("New of %d bytes: %d", len(s+more), bad)
			}
		}
	}
}

// documents are texts with one here-document, with two, and with three, and a command behind them.
const (
	single = "cat <<E\nx\nE\nls"                      // cat, blank, <<, E at 6, newline, Here at 8, ls at 12
	double = "<<a <<b\n1\na\n2\nb\nls"                // <<, a at 2, blank, << at 4, b at 6, newline, Heres at 8 and at 12, ls at 16
	triple = "<<a <<-b <<c\n1\na\n\t2\n\tb\n3\nc\nls" // <<, a, blank, <<- at 4, b at 7, blank, << at 9, c at 11, newline, Heres at 13, at 17 and at 23, ls at 27
)

// kepts are edits, and what they keep, as hands counted it.
var kepts = []struct {
	s    string
	e    api.Edit
	kept api.Kept
}{
	{"a b c", turn(2, "b", "bb"), api.Kept{Head: 0, Tail: 2}}, // the chapter's example

	{"", put(0, ""), api.Kept{Head: 0, Tail: 0}}, // the empty text
	{"", put(0, "a b"), api.Kept{Head: 0, Tail: 0}},
	{"", put(0, "<<E\n"), api.Kept{Head: 0, Tail: 0}},
	{"a b c", cut(0, "a b c"), api.Kept{Head: 0, Tail: 0}},
	{"a b c", turn(0, "a b c", "a b c"), api.Kept{Head: 0, Tail: 0}},

	{"a b c", put(0, "x"), api.Kept{Head: 0, Tail: 4}}, // at the beginning
	{"a b c", put(0, "x "), api.Kept{Head: 0, Tail: 5}},
	{"a b c", put(0, ";"), api.Kept{Head: 0, Tail: 5}},
	{"a b c", put(0, " "), api.Kept{Head: 0, Tail: 5}},
	{" b c", put(0, " "), api.Kept{Head: 0, Tail: 3}},
	{"a b c", cut(0, "a"), api.Kept{Head: 0, Tail: 4}},
	{"a b c", cut(0, "a "), api.Kept{Head: 0, Tail: 3}},
	{"a b c", put(0, "#"), api.Kept{Head: 0, Tail: 0}},
	{"a b\nc", put(0, "#"), api.Kept{Head: 0, Tail: 2}},

	{"a b c", put(5, "d"), api.Kept{Head: 3, Tail: 0}}, // at the end
	{"a b c", put(5, " d"), api.Kept{Head: 3, Tail: 0}},
	{"a b c", cut(4, "c"), api.Kept{Head: 2, Tail: 0}},
	{"a b c", cut(3, " c"), api.Kept{Head: 1, Tail: 0}},
	{"a", put(1, "b"), api.Kept{Head: 0, Tail: 0}},

	{"a b c", put(0, ""), api.Kept{Head: 0, Tail: 5}}, // that change nothing
	{"a b c", put(1, ""), api.Kept{Head: 0, Tail: 4}},
	{"a b c", put(2, ""), api.Kept{Head: 0, Tail: 3}},
	{"a b c", put(3, ""), api.Kept{Head: 1, Tail: 2}},
	{"a b c", put(4, ""), api.Kept{Head: 2, Tail: 1}},
	{"a b c", put(5, ""), api.Kept{Head: 3, Tail: 0}},
	{"a bb c", put(3, ""), api.Kept{Head: 1, Tail: 2}},
	{"a b c", turn(2, "b", "b"), api.Kept{Head: 0, Tail: 2}},
	{"a b c", turn(1, " b ", " b "), api.Kept{Head: 0, Tail: 1}},
	{single, put(6, ""), api.Kept{Head: 2, Tail: 4}},
	{single, put(8, ""), api.Kept{Head: 3, Tail: 2}},

	{"abc def ghi", put(2, "x"), api.Kept{Head: 0, Tail: 4}}, // ahead of a token's end, at it, one byte and two bytes behind it
	{"abc def ghi", put(3, "x"), api.Kept{Head: 0, Tail: 4}},
	{"abc def ghi", put(4, "x"), api.Kept{Head: 0, Tail: 2}},
	{"abc def ghi", put(5, "x"), api.Kept{Head: 1, Tail: 2}},
	{"abc def ghi", put(6, "x"), api.Kept{Head: 2, Tail: 2}},
	{"abc def ghi", cut(2, "c"), api.Kept{Head: 0, Tail: 4}},
	{"abc def ghi", cut(3, " "), api.Kept{Head: 0, Tail: 2}},
	{"abc def ghi", cut(4, "d"), api.Kept{Head: 0, Tail: 2}},
	{"abc def ghi", cut(5, "e"), api.Kept{Head: 1, Tail: 2}},
	{"a  \\\nb", put(4, "x"), api.Kept{Head: 1, Tail: 1}}, // the blank hangs on both bytes of a newline that a backslash takes away
	{" \\x", turn(2, "x", "\n"), api.Kept{Head: 0, Tail: 0}},
	{";  \\x", turn(4, "x", "\n"), api.Kept{Head: 1, Tail: 0}},

	{"a  b", put(2, " "), api.Kept{Head: 0, Tail: 1}}, // within a blank
	{"a  b", put(2, "x"), api.Kept{Head: 0, Tail: 1}},
	{"a  b", put(2, "\\\n"), api.Kept{Head: 0, Tail: 1}},
	{"a  b", cut(1, " "), api.Kept{Head: 0, Tail: 1}},
	{"a b", cut(1, " "), api.Kept{Head: 0, Tail: 0}},
	{"a b c", cut(1, " "), api.Kept{Head: 0, Tail: 2}},
	{"a b", turn(1, " ", "\n"), api.Kept{Head: 0, Tail: 1}},

	{"ab cd ef", put(4, "x"), api.Kept{Head: 1, Tail: 2}}, // within a word
	{"ab cd ef", put(4, " "), api.Kept{Head: 1, Tail: 2}},
	{"ab cd ef", put(4, ";"), api.Kept{Head: 1, Tail: 2}},
	{"ab cd ef", cut(4, "d"), api.Kept{Head: 1, Tail: 2}},
	{"ab cd ef", cut(3, "cd"), api.Kept{Head: 0, Tail: 1}},
	{"ab cd ef", put(4, "\\"), api.Kept{Head: 1, Tail: 2}},
	{"ab cd ef", put(5, "\\"), api.Kept{Head: 2, Tail: 0}},

	{"a & b", put(3, "&"), api.Kept{Head: 1, Tail: 2}}, // operators that become longer, and shorter
	{"a & b", put(2, "&"), api.Kept{Head: 0, Tail: 2}},
	{"a && b", cut(3, "&"), api.Kept{Head: 1, Tail: 2}},
	{"a; ;b", cut(2, " "), api.Kept{Head: 0, Tail: 1}},
	{"a ;;b", put(3, " "), api.Kept{Head: 1, Tail: 1}},
	{"a >b", put(3, ">"), api.Kept{Head: 1, Tail: 1}},
	{"a >b", put(3, "|"), api.Kept{Head: 1, Tail: 1}},
	{"a >&b", turn(3, "&", "|"), api.Kept{Head: 1, Tail: 1}},

	{"a 2>b", put(3, "x"), api.Kept{Head: 1, Tail: 2}}, // a number that becomes a word, and back
	{"a 2>b", put(3, " "), api.Kept{Head: 1, Tail: 2}},
	{"a 2>b", put(2, "x"), api.Kept{Head: 0, Tail: 2}},
	{"a 2>b", put(2, "1"), api.Kept{Head: 0, Tail: 2}},
	{"a 2x>b", cut(3, "x"), api.Kept{Head: 1, Tail: 2}},
	{"a 2 >b", cut(3, " "), api.Kept{Head: 1, Tail: 2}},
	{"a 2>b", cut(3, ">"), api.Kept{Head: 1, Tail: 0}},
	{"a 2>b c", cut(3, ">"), api.Kept{Head: 1, Tail: 2}},

	{"a #b\nc", put(3, " "), api.Kept{Head: 1, Tail: 2}}, // comments
	{"a #b\nc", put(4, "x"), api.Kept{Head: 2, Tail: 2}},
	{"a #b\nc", cut(2, "#"), api.Kept{Head: 0, Tail: 2}},
	{"a #b\nc", cut(4, "\n"), api.Kept{Head: 2, Tail: 0}},
	{"a #b c", put(4, "\n"), api.Kept{Head: 2, Tail: 0}},
	{"a b\nc", put(2, "#"), api.Kept{Head: 0, Tail: 2}},
	{"a b #c", put(2, "#"), api.Kept{Head: 0, Tail: 0}},
	{"a #<<E\nE", cut(2, "#"), api.Kept{Head: 0, Tail: 0}},
	{"a #b <<E\nE\nc", put(4, "\n"), api.Kept{Head: 2, Tail: 1}},

	{"a b c", put(0, "'"), api.Kept{Head: 0, Tail: 0}}, // quotes that open, and shut
	{"a b c", put(2, "\""), api.Kept{Head: 0, Tail: 0}},
	{"a b c d", put(4, "$("), api.Kept{Head: 2, Tail: 0}},
	{"'a b c", cut(0, "'"), api.Kept{Head: 0, Tail: 0}},
	{"'a b c", put(2, "'"), api.Kept{Head: 0, Tail: 0}},
	{"'a' b 'c' d", cut(0, "'"), api.Kept{Head: 0, Tail: 0}},
	{"'a' b 'c' d", put(6, "'"), api.Kept{Head: 2, Tail: 0}},
	{"'a' b 'c' d", put(2, " e"), api.Kept{Head: 0, Tail: 6}},
	{"a 'b c' d", cut(2, "'"), api.Kept{Head: 0, Tail: 0}},
	{"a 'b' c", turn(2, "'b'", "\"b c\""), api.Kept{Head: 0, Tail: 2}},

	{"a <b", put(3, "<"), api.Kept{Head: 1, Tail: 0}}, // << and <<- that come, and go
	{"a <b c", put(3, "<"), api.Kept{Head: 1, Tail: 0}},
	{"a <b\nb\nc", put(3, "<"), api.Kept{Head: 1, Tail: 1}},
	{"a <<b\nb\nc", cut(3, "<"), api.Kept{Head: 1, Tail: 1}},
	{"a <<b c", cut(2, "<"), api.Kept{Head: 0, Tail: 0}},
	{single, cut(4, "<<"), api.Kept{Head: 0, Tail: 1}},
	{single, put(6, "-"), api.Kept{Head: 2, Tail: 1}},
	{"cat <<-E\nx\nE\nls", cut(6, "-"), api.Kept{Head: 2, Tail: 1}},
	{"cat E\nx\nE\nls", put(4, "<<"), api.Kept{Head: 0, Tail: 1}},
	{"cat E\nx\n\tE\nls", put(4, "<<-"), api.Kept{Head: 0, Tail: 1}},
	{"cat E\nx\n\tE\nls", put(4, "<<"), api.Kept{Head: 0, Tail: 0}},

	{single, cut(6, "E"), api.Kept{Head: 2, Tail: 1}}, // a delimiter
	{single, turn(6, "E", "F"), api.Kept{Head: 2, Tail: 0}},
	{single, turn(6, "E", "'E'"), api.Kept{Head: 2, Tail: 3}},
	{single, put(7, " a"), api.Kept{Head: 2, Tail: 3}},
	{single, put(6, " "), api.Kept{Head: 2, Tail: 4}},
	{single, cut(7, "\n"), api.Kept{Head: 2, Tail: 0}},
	{"cat <<\nx\nE\nls", put(6, "E"), api.Kept{Head: 2, Tail: 1}},
	{"cat <<\nx\nE\nls", put(6, "F"), api.Kept{Head: 2, Tail: 0}},

	{single, put(8, "y"), api.Kept{Head: 3, Tail: 1}}, // the lines of a document
	{single, put(8, "y\n"), api.Kept{Head: 3, Tail: 1}},
	{single, put(9, "y"), api.Kept{Head: 4, Tail: 1}},
	{single, cut(8, "x\n"), api.Kept{Head: 3, Tail: 1}},
	{single, turn(8, "x", "'"), api.Kept{Head: 3, Tail: 1}},
	{single, put(10, "E\n"), api.Kept{Head: 5, Tail: 1}},
	{single, put(8, "E\n"), api.Kept{Head: 3, Tail: 1}},
	{single, put(10, "F"), api.Kept{Head: 5, Tail: 0}}, // the delimiter's line
	{single, put(11, "F"), api.Kept{Head: 5, Tail: 0}},
	{single, put(10, "\t"), api.Kept{Head: 5, Tail: 0}},
	{single, cut(10, "E"), api.Kept{Head: 5, Tail: 0}},
	{single, cut(10, "E\n"), api.Kept{Head: 5, Tail: 0}},
	{single, cut(11, "\n"), api.Kept{Head: 5, Tail: 0}},
	{"cat <<-E\nx\nE\nls", put(11, "\t"), api.Kept{Head: 5, Tail: 1}},
	{"cat <<E\nx\nFE\nls", cut(10, "F"), api.Kept{Head: 5, Tail: 0}},
	{"cat <<E\nx\n", put(10, "E"), api.Kept{Head: 5, Tail: 0}},

	{double, put(9, "1"), api.Kept{Head: 5, Tail: 2}}, // two and three documents in one line
	{double, turn(12, "2", "3"), api.Kept{Head: 6, Tail: 1}},
	{double, turn(2, "a", "c"), api.Kept{Head: 0, Tail: 0}},
	{double, turn(2, "a", "2"), api.Kept{Head: 0, Tail: 1}},
	{double, turn(6, "b", "1"), api.Kept{Head: 3, Tail: 0}},
	{double, cut(4, "<<b"), api.Kept{Head: 1, Tail: 1}},
	{double, cut(0, "<<a"), api.Kept{Head: 0, Tail: 1}},
	{double, cut(0, "<<"), api.Kept{Head: 0, Tail: 1}},
	{double, cut(10, "a\n"), api.Kept{Head: 6, Tail: 0}},
	{double, turn(0, "<<a <<b", "<<b <<a"), api.Kept{Head: 0, Tail: 0}},
	{double, cut(3, " "), api.Kept{Head: 0, Tail: 6}},
	{double, turn(12, "2\nb", "b"), api.Kept{Head: 6, Tail: 1}},
	{triple, put(13, "0"), api.Kept{Head: 7, Tail: 3}},
	{triple, turn(18, "2", "5"), api.Kept{Head: 9, Tail: 2}},
	{triple, put(23, "4\n"), api.Kept{Head: 10, Tail: 1}},
	{triple, cut(6, "-"), api.Kept{Head: 3, Tail: 0}},
	{triple, cut(4, "<<-b"), api.Kept{Head: 1, Tail: 1}},
	{triple, cut(9, "<<c"), api.Kept{Head: 4, Tail: 1}},
	{triple, cut(0, "<<a "), api.Kept{Head: 0, Tail: 2}},
	{triple, cut(20, "\t"), api.Kept{Head: 10, Tail: 2}},
	{triple, turn(0, "<<a <<-b <<c\n1\na", "<<-b <<c"), api.Kept{Head: 0, Tail: 3}},

	{"\x00 \xff\x80 \x00", put(3, "\xc3"), api.Kept{Head: 1, Tail: 2}}, // any bytes
	{"\x00 \xff\x80 \x00", turn(0, "\x00 ", "\x00\x00"), api.Kept{Head: 0, Tail: 2}},
	{"<<\x00\xff\n\x00\xff\n\x80", cut(3, "\xff"), api.Kept{Head: 0, Tail: 0}},
	{"<<\x00\xff\n\xff\n\x80", cut(2, "\x00"), api.Kept{Head: 0, Tail: 0}},
	{"<<\x00\n\x00\n\x80", put(4, "\xff\n"), api.Kept{Head: 1, Tail: 1}},
}

// P10.2, P10.3: edits by hand, what they keep, what the text is then, and again by their inverses.
func TestKept(t *testing.T) {
	for _, c := range kepts {
		was := lexed(c.s)
		d := opened(t, c.s)
		now, ok := applied(t, d, was, c.e)
		if want := keeps(was, now, c.e); want != c.kept {
			t.Errorf("%q by %s keeps %v, not %v", c.s, shown(c.e), want, c.kept)
		}
		if ok {
			leads(t, d, now, was, edit.Inverse(c.e))
		}
	}
}

// around plays all edits of a text that take away what stands between two of some places, and put one of some texts there, each with its inverse behind it; false: one is otherwise.
func around(t *testing.T, s string, places []int, inserted []string, known func(string) plain) bool {
	t.Helper()
	was, d := known(s), opened(t, s)
	for i, from := range places {
		for _, to := range places[i:] {
			for _, ins := range inserted {
				e := turn(from, s[from:to], ins)
				now := known(s[:from] + ins + s[to:])
				if !leads(t, d, was, now, e) || !leads(t, d, now, was, edit.Inverse(e)) {
					return false
				}
			}
		}
	}
	return true
}

// knowing is lexed, with a memory.
func knowing() func(string) plain {
	known := map[string]plain{}
	return func(s string) plain {
		p, ok := known[s]
		if !ok {
			p = lexed(s)
			known[s] = p
		}
		return p
	}
}

// places are all of a text.
func places(s string) (all []int) {
	for at := range len(s) + 1 {
		all = append(all, at)
	}
	return all
}

// P10.2, P10.3: all edits of all short texts.
func TestShort(t *testing.T) {
	for _, c := range []struct {
		those    string
		most     int
		inserted []string
	}{
		{" \n\\#<>-&;|(1a'$", 3, letters(" \n\\#<-&1a'")},
		{" \n<-a", 4, []string{"", "a", "<", "\n", "<<a", "\na\n"}},
		{"\\\n <a", 4, []string{"", "\\", "\n", "a "}},
		{"'\"$( a", 4, []string{"'", "\"", ")", " "}},
	} {
		t.Run(c.those, func(t *testing.T) {
			t.Parallel()
			known := knowing()
			for _, s := range texts(letters(c.those), c.most) {
				if !around(t, s, places(s), c.inserted, known) {
					return
				}
			}
		})
	}
}

// P10.2, P10.3: edits at all places of texts with documents.
func TestDocuments(t *testing.T) {
	inserted := []string{"", "a", "E", "<", "<<", "<<E", "<<-b ", "\n", "E\n", "a\n", "\t", " ", "'", "#", "<<b\n", "\\\n"}
	for i, s := range []string{
		single, double, triple, "<<E\nE\n<<E\nE\na", "<<E <<E <<E\nE\nE\nE\n", "<<-E;<<E\n\tE\nE\nE\na b", "a <<'E b'|c\nE b\nd", "<<a\n\n<<b\na\n<<b\nb\n", "<<''\n\na", "<<E #x\nE\n;",
	} {
		t.Run(strconv.Itoa(i), func(t *testing.T) {
			t.Parallel()
			around(t, s, places(s), inserted, knowing())
		})
	}
}

// P10.2, P10.3: all short rows of pieces that turn something, edited piece by piece.
func TestPieces(t *testing.T) {
	pieces := []string{"<<a", "<<-b", "a", "b\n", "\n", "\t", "'"}
	for _, first := range pieces {
		t.Run(strconv.Quote(first), func(t *testing.T) {
			t.Parallel()
			known := knowing()
			for _, second := range pieces {
				for _, third := range pieces {
					for _, fourth := range pieces {
						var at []int
						n := 0
						for _, p := range []string{"", first, second, third, fourth} {
							n += len(p)
							at = append(at, n)
						}
						if !around(t, first+second+third+fourth, at, append([]string{""}, pieces[:5]...), known) {
							return
						}
					}
				}
			}
		})
	}
}

// chance tells numbers below others, the same ones each time.
func chance(seed uint64) func(below int) int {
	return func(below int) int {
		seed = seed*6364136223846793005 + 1442695040888963407
		return int(seed >> 33 % uint64(below))
	}
}

// bits are what long texts are made of.
var bits = []string{"a", "b", "E", "12", " ", "\t", "\n", "\n", "E\n", "a\n", ";", "&", "|", "(", ")", "<", ">", "-", "<<E", "<<-a ", "<<'b'\n", "#", "'", "'", "\"", "\\", "$", "$(", "`", "{", "\x00", "\xff", "\xc3\xa9"}

// made is a text of so many bits.
func made(next func(int) int, n int) string {
	var w strings.Builder
	for range n {
		w.WriteString(bits[next(len(bits))])
	}
	return w.String()
}

// drawn is an edit of a text by which at most so many bytes go, and so many bits come.
func drawn(next func(int) int, s string, bytes, most int) api.Edit {
	from := next(len(s) + 1)
	to := min(len(s), from+next(bytes+1))
	return turn(from, s[from:to], made(next, next(most+1)))
}

// P10.3: long rows of edits, behind each of which all is as of a new text, with all inverses behind them, the last one first.
func TestRows(t *testing.T) {
	for seed := range 8 {
		t.Run(strconv.Itoa(seed), func(t *testing.T) {
			t.Parallel()
			next := chance(uint64(seed))
			for range 60 {
				p := lexed(made(next, next(40)))
				d := opened(t, p.text)
				ps, edits := []plain{p}, []api.Edit{}
				for range 25 {
					e := drawn(next, p.text, 8, 4)
					now, ok := applied(t, d, p, e)
					if !ok {
						return
					}
					p = now
					ps, edits = append(ps, p), append(edits, e)
				}
				if !is(t, "new", opened(t, p.text), p) {
					return
				}
				for i := len(edits) - 1; i >= 0; i-- {
					if !leads(t, d, ps[i+1], ps[i], edit.Inverse(edits[i])) {
						return
					}
				}
			}
		})
	}
}

// P10.3: edits of long texts.
func TestLong(t *testing.T) {
	for seed := range 4 {
		t.Run(strconv.Itoa(seed), func(t *testing.T) {
			t.Parallel()
			next := chance(uint64(100 + seed))
			line := "for a in b c; do echo \"$a\" 2>&1 | cat <<E <<-'F G' #d\n1 $x\nE\n\tF G\ndone && ls 'a b' \\\n -l\n"
			p := lexed(strings.Repeat(line, 40) + made(next, 400))
			d := opened(t, p.text)
			for range 60 {
				e := drawn(next, p.text, 1+40*seed, 6)
				now, ok := applied(t, d, p, e)
				if !ok {
					return
				}
				if next(3) > 0 { // most edits go again, lest all the text be within one quote soon
					if !leads(t, d, now, p, edit.Inverse(e)) {
						return
					}
					continue
				}
				p = now
			}
		})
	}
}

// P10.3: a text that is typed byte by byte, at its end, at its beginning, and in its midst, is as a new one; and one that goes likewise.
func TestTyped(t *testing.T) {
	s := "if a <b; then cat <<E <<-'F' | \"c $(d)\"\nx\nE\n\ty\n\tF\nfi 2>&1 #end\n\\\n a\\b `c`\n"
	half := len(s) / 2
	for _, order := range []func(i int) (at int, text string){
		func(i int) (int, string) { return i, s },
		func(i int) (int, string) { return 0, backward(s) },
		func(i int) (int, string) { return i / 2, woven(s[:half], backward(s[half:])) },
	} {
		d := opened(t, "")
		p := lexed("")
		var edits []api.Edit
		ps := []plain{p}
		for i := range len(s) {
			at, text := order(i)
			e := put(min(at, len(p.text)), text[i:i+1])
			now, ok := applied(t, d, p, e)
			if !ok {
				return
			}
			p = now
			ps, edits = append(ps, p), append(edits, e)
		}
		for i := len(edits) - 1; i >= 0; i-- {
			if !leads(t, d, ps[i+1], ps[i], edit.Inverse(edits[i])) {
				return
			}
		}
	}
}

// backward is a text from its last byte on.
func backward(s string) string {
	b := []byte(s)
	slices.Reverse(b)
	return string(b)
}

// woven is a byte of the one text, a byte of the other, and so on.
func woven(a, b string) string {
	var w strings.Builder
	for i := range max(len(a), len(b)) {
		w.WriteString(a[min(i, len(a)):min(i+1, len(a))] + b[min(i, len(b)):min(i+1, len(b))])
	}
	return w.String()
}

// P10.2: edits that don't go, behind which all is as it was.
func TestRefused(t *testing.T) {
	long := strings.Repeat("a", api.MaxText)
	for _, s := range []string{"", "a", "a b c", double, "<<E\nx", "'a b", "\x00\xff"} {
		d, p := opened(t, s), lexed(s)
		refused := []struct {
			e   api.Edit
			bad api.Errno
		}{
			{cut(0, "x"), api.ErrRange},
			{cut(0, s+"a"), api.ErrRange},
			{cut(len(s), "a"), api.ErrRange},
			{turn(0, s+"\x00", "a"), api.ErrRange},
			{put(len(s)+1, ""), api.ErrRange},
			{put(len(s)+1, "a"), api.ErrRange},
			{put(len(s)+1, long+"a"), api.ErrRange}, // of two errors the first
			{turn(0, "x", long+"a"), api.ErrRange},
			{put(0, long+"a"), api.ErrLarge},
			{put(len(s), long+"a"), api.ErrLarge},
			{turn(0, s, long+"a"), api.ErrLarge},
		}
		for _, at := range far {
			for _, e := range []api.Edit{put(at, ""), put(at, "a"), cut(at, "a"), turn(at, s, "a"), put(at, long+"a")} {
				refused = append(refused, struct {
					e   api.Edit
					bad api.Errno
				}{e, api.ErrRange})
			}
		}
		for _, c := range refused {
			if k, bad := d.Apply(c.e); k != (api.Kept{}) || bad != c.bad {
				t.Errorf("%q: at %d %d and %d bytes: %v, %d, not %d", s, c.e.At, len(c.e.Del), len(c.e.Ins), k, bad, c.bad)
			}
			if !is(t, "refused", d, p) {
				return
			}
		}
		applied(t, d, p, put(len(s), "\n<<E b\nE\n")) // it goes on, too, as if nothing had been
	}
}

// P10.2: edits of a text that is as long as one may be.
func TestFull(t *testing.T) {
	line := "cat <<E && ls -l 'a b' \"$c\" | sort #d\n" + strings.Repeat("x\n", 40) + "E\n"
	s := strings.Repeat(line, api.MaxText/len(line)-1)
	s += strings.Repeat(";", api.MaxText-len(s))
	d, p := opened(t, s), lexed(s)
	for _, e := range []api.Edit{put(0, "a"), put(len(s), "a"), put(len(s)/2, ";"), turn(0, "c", "ab"), turn(0, s, s+"a")} {
		if k, bad := d.Apply(e); k != (api.Kept{}) || bad != api.ErrLarge {
			t.Errorf("%v, %d", k, bad)
		}
	}
	is(t, "full", d, p)
	for _, e := range []api.Edit{put(0, ""), put(len(s), ""), turn(len(s)/2, s[len(s)/2:len(s)/2+1], "'"), turn(0, "cat ", "<<a;"), cut(len(s)-1, ";"), cut(0, s)} {
		now, ok := applied(t, d, p, e)
		if !ok || !leads(t, d, now, p, edit.Inverse(e)) {
			return
		}
	}
	d = opened(t, "a")
	now, ok := applied(t, d, lexed("a"), put(1, s[1:]))
	if !ok {
		return
	}
	if k, bad := d.Apply(put(1, "a")); k != (api.Kept{}) || bad != api.ErrLarge {
		t.Errorf("%v, %d", k, bad)
	}
	is(t, "full", d, now)
}

// P1: so many documents in one line that a row of them for each token would be more than any memory; and that they aren't held against each other at each token of it.
func TestManyDocuments(t *testing.T) {
	n := api.MaxText / len("<<a")
	d := opened(t, strings.Repeat("<<a", n))
	all := slices.Repeat([]api.Delim{{Word: "a"}}, n)
	if x := d.Lexing(); !same(x, api.Lexing{Pend: all}) {
		t.Errorf("%d are to come", len(x.Pend))
	}
	half := n / 2
	if x, ok := d.Ahead(2 * half); !ok || !same(x, api.Lexing{Pend: all[:half]}) {
		t.Errorf("in the midst %d are to come, %t", len(x.Pend), ok)
	}
	if x, ok := d.Ahead(2*half + 1); !ok || !same(x, api.Lexing{Await: 4, Pend: all[:half]}) {
		t.Errorf("in the midst %d are to come, %t", len(x.Pend), ok)
	}
	for _, c := range []struct {
		e    api.Edit
		kept api.Kept
	}{
		{turn(3*half+2, "a", "b"), api.Kept{Head: 2 * half, Tail: 0}},
		{turn(3*half+2, "b", "a"), api.Kept{Head: 2 * half, Tail: 0}},
		{cut(3*half, "<<a"), api.Kept{Head: 2*half - 2, Tail: 0}},
		{put(3*half, " "), api.Kept{Head: 2*half - 2, Tail: 2*(n-half) - 2}},
	} {
		if k, bad := d.Apply(c.e); k != c.kept || bad != api.OK {
			t.Errorf("%s: %v, %d, not %v", shown(c.e), k, bad, c.kept)
		}
	}
	if x := d.Lexing(); !same(x, api.Lexing{Pend: all[1:]}) {
		t.Errorf("then %d are to come", len(x.Pend))
	}
}

// R4: what was told isn't changed by later edits, and its caller changes nothing of the Doc's by it.
func TestApart(t *testing.T) {
	s := "a 2>b <<E <<-F\nx\nE\n\tF\nls <<G <<H"
	d, p := opened(t, s), lexed(s)
	text, tokens, leaves, last := d.Text(), d.Tokens(), d.Leaves(), d.Lexing()
	var ahead []api.Lexing
	for n := range p.tokens {
		x, _ := d.Ahead(n)
		ahead = append(ahead, x)
	}
	q := p
	for _, e := range []api.Edit{put(0, "<<Z "), turn(4, "a", "bcd"), cut(0, "<<Z bcd "), put(3, "<<Q "), put(0, "'"), cut(0, "'"), turn(2, "b", "x y z"), cut(0, "2>")} {
		now, ok := applied(t, d, q, e)
		if !ok {
			return
		}
		q = now
	}
	if text != s || !slices.Equal(tokens, p.tokens) || !slices.Equal(leaves, token.Leaves(s, p.tokens)) || !same(last, p.ahead[len(p.tokens)]) {
		t.Errorf("%q, %v, %v, %s", text, tokens, leaves, spelled(last))
	}
	for n, x := range ahead {
		if !same(x, p.ahead[n]) {
			t.Errorf("%d: %s, not %s", n, spelled(x), spelled(p.ahead[n]))
		}
	}
	spoil(d)
	if !is(t, "spoilt", d, q) {
		return
	}
	now, ok := applied(t, d, q, put(1, ";<<K\nK\n"))
	if !ok {
		return
	}
	spoil(d)
	is(t, "spoilt again", d, now)
}

// spoil writes over all that a Doc tells, and behind it as far as its memory goes.
func spoil(d *relex.Doc) {
	x := d.Lexing()
	fill(x.Pend, api.Delim{Word: "?"})
	tokens := d.Tokens()
	for n := range tokens {
		y, _ := d.Ahead(n)
		fill(y.Pend, api.Delim{Word: "!", Tabs: true})
	}
	fill(tokens, api.Token{Kind: -1})
	fill(d.Leaves(), api.Leaf{Text: "?"})
}

// fill writes one thing over a whole row, and behind it as far as its memory goes.
func fill[T any](l []T, x T) {
	l = l[:cap(l)]
	for i := range l {
		l[i] = x
	}
}

// R4: the texts that are handed in aren't kept; Docs have nothing to do with each other.
func TestOwn(t *testing.T) {
	s := strings.Clone("a <<E b")
	d, e := opened(t, s), opened(t, s)
	if unsafe.StringData(d.Text()) == unsafe.StringData(s) {
		t.Error("the text is the one that was handed in")
	}
	p := lexed(s)
	applied(t, d, p, turn(2, "<<E", "<<-F"))
	is(t, "the other one", e, p)
	ins := strings.Clone("c <<G")
	if _, bad := e.Apply(turn(0, s, ins)); bad != api.OK || unsafe.StringData(e.Text()) == unsafe.StringData(ins) {
		t.Errorf("%d; or the text is what was put in", bad)
	}
}
