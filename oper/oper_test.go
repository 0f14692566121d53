package oper_test

import (
	"math"
	"slices"
	"strings"
	"testing"

	"quillwort/api"
	"quillwort/oper"
)

// list is the operators' texts as the chapter numbers them, from 1 on.
var list = strings.Fields("&& || ;; << <<- >> <& >& <> >| < > & ; | ( )")

// apart are the pairs that are read as something else when one stands right behind the other, with what they are read as.
var apart = []struct {
	a, b string
	read string
}{
	{"&", "&", "&&"},
	{"&", "&&", "&& &"},
	{"|", "|", "||"},
	{"|", "||", "|| |"},
	{";", ";", ";;"},
	{";", ";;", ";; ;"},
	{"<", "<", "<<"},
	{"<", "<<", "<< <"},
	{"<", "<<-", "<< <"}, // and then a - that is no operator's
	{"<", "<&", "<< &"},
	{"<", "<>", "<< >"},
	{"<", "&", "<&"},
	{"<", "&&", "<& &"},
	{"<", ">", "<>"},
	{"<", ">>", "<> >"},
	{"<", ">&", "<> &"},
	{"<", ">|", "<> |"},
	{">", ">", ">>"},
	{">", ">>", ">> >"},
	{">", ">&", ">> &"},
	{">", ">|", ">> |"},
	{">", "&", ">&"},
	{">", "&&", ">& &"},
	{">", "|", ">|"},
	{">", "||", ">| |"},
}

// none are numbers that are no operators.
var none = []int{math.MinInt, math.MinInt + 1, -api.MaxText, -18, -17, -13, -2, -1, 0, 18, 19, 34, 256, 257, 1 << 32, 1<<32 + 1, api.MaxText, math.MaxInt - 1, math.MaxInt}

// far are places outside any text.
var far = []int{math.MinInt, math.MinInt + 1, -api.MaxText, -2, -1, api.MaxText + 1, math.MaxInt - 1, math.MaxInt}

// number is the operator of a text in the chapter's list; 0: it isn't there.
func number(text string) int {
	return slices.Index(list, text) + 1
}

// numbers are the operators that are written one by one, with spaces.
func numbers(texts string) []int {
	var all []int
	for _, text := range strings.Fields(texts) {
		all = append(all, number(text))
	}
	return all
}

// head is the longest operator with which a text begins.
func head(s string) (op, n int) {
	for i, text := range list {
		if strings.HasPrefix(s, text) && len(text) > n {
			op, n = i+1, len(text)
		}
	}
	return op, n
}

// parted is what Split is to answer.
func parted(s string) (l []int, at int, e api.Errno) {
	for i := 0; i < len(s); {
		op, n := head(s[i:])
		switch {
		case op > 0:
			l = append(l, op)
			i += n
		case s[i] == ' ' || s[i] == '\t':
			i++
		default:
			return nil, i, api.ErrByte
		}
	}
	return l, 0, api.OK
}

// written is what Write is to answer.
func written(l []int) (string, api.Errno) {
	s := ""
	for i, op := range l {
		if op < 1 || op > len(list) {
			return "", api.ErrKind
		}
		if i > 0 && !tight(l[i-1], op) {
			s += " "
		}
		s += list[op-1]
	}
	return s, api.OK
}

// tight tells whether two operators are, by the list of those that aren't.
func tight(a, b int) bool {
	for _, p := range apart {
		if number(p.a) == a && number(p.b) == b {
			return false
		}
	}
	return a >= 1 && a <= len(list) && b >= 1 && b <= len(list)
}

// texts are all texts of at most so many bytes of those.
func texts(those string, most int) []string {
	all := []string{""}
	for from := 0; most > 0; most-- {
		for to := len(all); from < to; from++ {
			for i := range len(those) {
				all = append(all, all[from]+those[i:i+1])
			}
		}
	}
	return all
}

// rows are all rows of at most so many of those numbers.
func rows(those []int, most int) [][]int {
	all := [][]int{nil}
	for from := 0; most > 0; most-- {
		for to := len(all); from < to; from++ {
			for _, n := range those {
				all = append(all, append(slices.Clone(all[from]), n))
			}
		}
	}
	return all
}

// seventeen are the operators' numbers.
func seventeen() []int {
	var all []int
	for i := range list {
		all = append(all, i+1)
	}
	return all
}

// stands checks what stands at each place of a text, and outside it.
func stands(t *testing.T, s string) {
	t.Helper()
	for at := range len(s) {
		op, n := oper.At(s, at)
		if want, long := head(s[at:]); op != want || n != long {
			t.Errorf("At(%q, %d) %d %d, not %d %d", s, at, op, n, want, long)
		}
	}
	for _, at := range append([]int{-1, len(s), len(s) + 1, len(s) + 2, -len(s), -len(s) - 1}, far...) {
		if at >= 0 && at < len(s) {
			continue
		}
		if op, n := oper.At(s, at); op != 0 || n != 0 {
			t.Errorf("At(%q, %d) %d %d, outside", s, at, op, n)
		}
	}
}

// is checks which operator a text is.
func is(t *testing.T, s string) {
	t.Helper()
	if got, want := oper.Of(s), number(s); got != want {
		t.Errorf("Of(%q) %d, not %d", s, got, want)
	}
}

// splits checks what a text's operators are.
func splits(t *testing.T, s string) {
	t.Helper()
	l, at, e := oper.Split(s)
	if want, place, bad := parted(s); !slices.Equal(l, want) || at != place || e != bad {
		t.Errorf("Split(%q) %v %d %d, not %v %d %d", s, l, at, e, want, place, bad)
	}
}

// writes checks how operators are written.
func writes(t *testing.T, l []int) {
	t.Helper()
	s, e := oper.Write(l...)
	if want, bad := written(l); s != want || e != bad {
		t.Errorf("Write(%v) %q %d, not %q %d", l, s, e, want, bad)
	}
}

// P5.1: the seventeen operators' numbers and texts, by api's names.
func TestText(t *testing.T) {
	all := []struct {
		op   int
		text string
	}{
		{api.OpAndIf, "&&"},
		{api.OpOrIf, "||"},
		{api.OpDsemi, ";;"},
		{api.OpHere, "<<"},
		{api.OpHereTabs, "<<-"},
		{api.OpAppend, ">>"},
		{api.OpDupIn, "<&"},
		{api.OpDupOut, ">&"},
		{api.OpReadWrite, "<>"},
		{api.OpClobber, ">|"},
		{api.OpIn, "<"},
		{api.OpOut, ">"},
		{api.OpAmp, "&"},
		{api.OpSemi, ";"},
		{api.OpPipe, "|"},
		{api.OpOpen, "("},
		{api.OpShut, ")"},
	}
	if len(all) != 17 || len(list) != 17 {
		t.Fatalf("%d and %d operators", len(all), len(list))
	}
	for i, c := range all {
		if c.op != i+1 || c.text != list[i] {
			t.Errorf("the operator %d is listed as %d, %q", c.op, i+1, list[i])
		}
		if got := oper.Text(c.op); got != c.text {
			t.Errorf("Text(%d) %q, not %q", c.op, got, c.text)
		}
		if got := oper.Of(c.text); got != c.op {
			t.Errorf("Of(%q) %d, not %d", c.text, got, c.op)
		}
	}
	for _, op := range none {
		if got := oper.Text(op); got != "" {
			t.Errorf("Text(%d) %q", op, got)
		}
	}
	for op := -1000; op <= 1000; op++ {
		if got := oper.Text(op); (got != "") != (op >= 1 && op <= 17) {
			t.Errorf("Text(%d) %q", op, got)
		}
	}
}

// P5.1: the longest operator at a place.
func TestAt(t *testing.T) {
	for _, c := range []struct {
		s     string
		at    int
		op, n int
	}{
		{"<<-x", 0, 5, 3}, // the chapter's example
		{"<<-x", 1, 11, 1},
		{"<<-x", 2, 0, 0}, // a - alone is no operator
		{"<<-x", 3, 0, 0},
		{"<<-x", 4, 0, 0},
		{"<<-x", 5, 0, 0},
		{"<<-x", -1, 0, 0},
		{"", 0, 0, 0},
		{"", 1, 0, 0},
		{"", -1, 0, 0},
		{"<", 0, 11, 1},
		{"<<", 0, 4, 2},
		{"<<", 1, 11, 1},
		{"<<", 2, 0, 0},
		{"<-", 0, 11, 1},
		{"<--", 0, 11, 1},
		{"<<--", 0, 5, 3},
		{"<< -", 0, 4, 2},
		{"<<<", 0, 4, 2},
		{"<<<-", 0, 4, 2},
		{"<<<-", 1, 5, 3},
		{">>-", 0, 6, 2},
		{">>>", 0, 6, 2},
		{">>>", 1, 6, 2},
		{">>>", 2, 12, 1},
		{">&", 0, 8, 2},
		{">&-", 0, 8, 2},
		{"<&-", 0, 7, 2},
		{"<><", 0, 9, 2},
		{"><", 0, 12, 1},
		{">|", 0, 10, 2},
		{"<|", 0, 11, 1},
		{">||", 0, 10, 2},
		{"|&", 0, 15, 1},
		{"&|", 0, 13, 1},
		{"&>", 0, 13, 1},
		{"&&&", 0, 1, 2},
		{"&&&", 2, 13, 1},
		{";;;", 0, 3, 2},
		{";;&", 0, 3, 2},
		{";&", 0, 14, 1},
		{"|||", 0, 2, 2},
		{"((", 0, 16, 1},
		{"))", 0, 17, 1},
		{"()", 0, 16, 1},
		{"a&&b", 0, 0, 0},
		{"a&&b", 1, 1, 2},
		{"a&&b", 2, 13, 1},
		{"a&&b", 3, 0, 0},
		{" &", 0, 0, 0}, // no blank is passed over
		{"\t&", 0, 0, 0},
		{"& &", 0, 13, 1},
		{"& &", 1, 0, 0},
		{"\n;", 0, 0, 0},
		{"\n;", 1, 14, 1},
		{";\n;", 0, 14, 1},
		{"\\;", 1, 14, 1},
		{"\";\"", 1, 14, 1},
		{"&\x00", 0, 13, 1},
		{"\x00&", 0, 0, 0},
		{"\xff", 0, 0, 0},
		{"!", 0, 0, 0},
		{"{", 0, 0, 0},
		{"-", 0, 0, 0},
		{"&&", math.MaxInt, 0, 0},
		{"&&", math.MinInt, 0, 0},
	} {
		if op, n := oper.At(c.s, c.at); op != c.op || n != c.n {
			t.Errorf("At(%q, %d) %d %d, not %d %d", c.s, c.at, op, n, c.op, c.n)
		}
	}
}

// P5.1: each operator alone, with each byte behind it and ahead of it, and with each other operator behind it.
func TestBeside(t *testing.T) {
	for _, text := range list {
		stands(t, text)
		for b := range 256 {
			one := string([]byte{byte(b)})
			stands(t, text+one)
			stands(t, one+text)
			stands(t, one+text+one)
		}
		for _, other := range list {
			stands(t, text+other)
			stands(t, text+" "+other)
			stands(t, "a"+text+other+"a")
		}
	}
	for b := range 256 {
		stands(t, string([]byte{byte(b)}))
	}
}

// P5.1: each place of all short texts of the operators' bytes, blanks, and others.
func TestPlaces(t *testing.T) {
	for _, s := range append(texts("&|;<>()-", 4), texts("<>&- \na\x80", 4)...) {
		stands(t, s)
		is(t, s)
		if t.Failed() {
			return // the rest would tell the same, thousands of times
		}
	}
	n := api.MaxText + 10
	for _, s := range []string{strings.Repeat("<", n), strings.Repeat("a", n-3) + "<<-"} {
		for _, at := range []int{0, 1, n / 2, n - 4, n - 3, n - 2, n - 1, n, n + 1} {
			op, long := oper.At(s, at)
			want, size := 0, 0
			if at < n {
				want, size = head(s[at:])
			}
			if op != want || long != size {
				t.Errorf("at %d of a long text: %d %d, not %d %d", at, op, long, want, size)
			}
		}
	}
}

// P5.1: which operator a text is, the whole of it.
func TestOf(t *testing.T) {
	for _, s := range []string{"", " ", "\n", "a", "-", "--", "<-", "-<", "<<<", ">>>", "&&&", "|||", ";;;", "||&", "<<--", " &", "& ", "&\n", "\t;", "()", ">>-", "<&-", "&>", "|&", ";&", "!", "{", "}", "$", "\x00", "\xff", "13", "&&&&"} {
		if got := oper.Of(s); got != 0 {
			t.Errorf("Of(%q) %d", s, got)
		}
	}
	for _, text := range list {
		for i := range len(text) {
			is(t, text[:i]+text[i+1:]) // a byte less
		}
		for b := range 256 {
			one := string([]byte{byte(b)})
			is(t, one)
			for i := range len(text) + 1 {
				is(t, text[:i]+one+text[i:]) // a byte more
				if i < len(text) {
					is(t, text[:i]+one+text[i+1:]) // another one
				}
			}
		}
		for _, other := range list {
			is(t, text+other)
			is(t, text+" "+other)
		}
		is(t, strings.Repeat(text, api.MaxText))
	}
}

// P5.2: redirections, and what ends a command.
func TestKinds(t *testing.T) {
	for i, text := range list {
		op := i + 1
		if got, want := oper.Redirects(op), slices.Contains(strings.Fields("<< <<- >> <& >& <> >| < >"), text); got != want {
			t.Errorf("Redirects(%d), %s: %v", op, text, got)
		}
		if got, want := oper.Ends(op), text == ";" || text == "&"; got != want {
			t.Errorf("Ends(%d), %s: %v", op, text, got)
		}
	}
	for op := -300; op <= 300; op++ {
		if got := oper.Redirects(op); got != (op >= 4 && op <= 12) {
			t.Errorf("Redirects(%d) %v", op, got)
		}
		if got := oper.Ends(op); got != (op == 13 || op == 14) {
			t.Errorf("Ends(%d) %v", op, got)
		}
	}
	for _, op := range none {
		if oper.Redirects(op) || oper.Ends(op) {
			t.Errorf("%d is no operator: %v %v", op, oper.Redirects(op), oper.Ends(op))
		}
	}
}

// P5.2: the pairs that aren't tight, and what they are read as; all others are.
func TestTight(t *testing.T) {
	for _, p := range apart {
		a, b := number(p.a), number(p.b)
		if oper.Tight(a, b) {
			t.Errorf("Tight(%d, %d), %s%s", a, b, p.a, p.b)
		}
		var read []int
		for s := p.a + p.b; ; {
			op, n := oper.At(s, 0)
			if op == 0 {
				break
			}
			read, s = append(read, op), s[n:]
		}
		if want := numbers(p.read); !slices.Equal(read, want) {
			t.Errorf("%s%s is read as %v, not %v", p.a, p.b, read, want)
		}
	}
	n := 0
	for _, a := range seventeen() {
		for _, b := range seventeen() {
			l, _, e := oper.Split(oper.Text(a) + oper.Text(b))
			as := e == api.OK && slices.Equal(l, []int{a, b})
			if got := oper.Tight(a, b); got != as || got != tight(a, b) {
				t.Errorf("Tight(%d, %d) %v: read as %v", a, b, got, l)
			}
			if oper.Tight(a, b) {
				n++
			}
		}
	}
	if n != 17*17-25 {
		t.Errorf("%d pairs are tight", n)
	}
}

// P5.2: what is no operator is tight beside nothing.
func TestTightNone(t *testing.T) {
	for _, a := range none {
		for _, b := range append(seventeen(), none...) {
			if oper.Tight(a, b) {
				t.Errorf("Tight(%d, %d)", a, b)
			}
			if oper.Tight(b, a) {
				t.Errorf("Tight(%d, %d)", b, a)
			}
		}
	}
}

// P5.3: a text's operators, blanks passed over, and the first byte at fault.
func TestSplit(t *testing.T) {
	for _, c := range []struct {
		s  string
		l  []int
		at int
		e  api.Errno
	}{
		{"", nil, 0, api.OK},
		{" ", nil, 0, api.OK},
		{"\t", nil, 0, api.OK},
		{" \t \t", nil, 0, api.OK},
		{"&", []int{13}, 0, api.OK},
		{"& &", []int{13, 13}, 0, api.OK},
		{"&&", []int{1}, 0, api.OK},
		{"&&&", []int{1, 13}, 0, api.OK},
		{"& &&", []int{13, 1}, 0, api.OK},
		{"<<-", []int{5}, 0, api.OK},
		{"<<-<", []int{5, 11}, 0, api.OK},
		{"<<<<-", []int{4, 5}, 0, api.OK},
		{"  ;", []int{14}, 0, api.OK},
		{";  ", []int{14}, 0, api.OK},
		{"\t;\t", []int{14}, 0, api.OK},
		{" \t( \t) \t", []int{16, 17}, 0, api.OK},
		{"()", []int{16, 17}, 0, api.OK},
		{"((", []int{16, 16}, 0, api.OK},
		{"|| |", []int{2, 15}, 0, api.OK},
		{"|||", []int{2, 15}, 0, api.OK},
		{"> >|>&<><&>><<", []int{12, 10, 8, 9, 7, 6, 4}, 0, api.OK},
		{"&&||;;<<<<->><&>&<>>|<>&;|()", []int{1, 2, 3, 4, 5, 6, 7, 8, 9, 10, 9, 13, 14, 15, 16, 17}, 0, api.OK}, // < and > are read as <>
		{"\n", nil, 0, api.ErrByte},
		{"&\n", nil, 1, api.ErrByte},
		{"\n&", nil, 0, api.ErrByte},
		{" \n ", nil, 1, api.ErrByte},
		{"a", nil, 0, api.ErrByte},
		{"a&", nil, 0, api.ErrByte},
		{"&a", nil, 1, api.ErrByte},
		{"&&  a", nil, 4, api.ErrByte},
		{"  a  b", nil, 2, api.ErrByte},
		{"; a ; b", nil, 2, api.ErrByte}, // two are at fault
		{";\n;a", nil, 1, api.ErrByte},
		{"a\n", nil, 0, api.ErrByte},
		{"-", nil, 0, api.ErrByte},
		{"<-", nil, 1, api.ErrByte},
		{"<< -", nil, 3, api.ErrByte},
		{"<<--", nil, 3, api.ErrByte},
		{"<<- -", nil, 4, api.ErrByte},
		{"<<<-", nil, 3, api.ErrByte},
		{">>-", nil, 2, api.ErrByte},
		{"<&-", nil, 2, api.ErrByte},
		{"& \r", nil, 2, api.ErrByte},
		{"\v", nil, 0, api.ErrByte},
		{"&\x00", nil, 1, api.ErrByte},
		{"&\xff", nil, 1, api.ErrByte},
		{"&\u00a0&", nil, 1, api.ErrByte},
		{"!", nil, 0, api.ErrByte},
		{"2>", nil, 0, api.ErrByte},
		{"{ ;}", nil, 0, api.ErrByte},
		{"\\;", nil, 0, api.ErrByte},
		{"';'", nil, 0, api.ErrByte},
		{"; # ;", nil, 2, api.ErrByte},
	} {
		l, at, e := oper.Split(c.s)
		if !slices.Equal(l, c.l) || at != c.at || e != c.e {
			t.Errorf("Split(%q) %v %d %d, not %v %d %d", c.s, l, at, e, c.l, c.at, c.e)
		}
	}
}

// P5.3: all short texts, and each byte ahead of operators, between them and behind.
func TestSplits(t *testing.T) {
	for _, s := range append(texts("&|;<>()- ", 4), texts("<&- \t\na\x80", 4)...) {
		splits(t, s)
		if t.Failed() {
			return // the rest would tell the same, thousands of times
		}
	}
	for b := range 256 {
		one := string([]byte{byte(b)})
		for _, text := range list {
			for _, s := range []string{one, one + text, text + one, text + one + text, text + " " + one, " " + one + " " + text, one + text + one} {
				splits(t, s)
			}
		}
	}
}

// P5.3: no text is too long.
func TestLong(t *testing.T) {
	n := api.MaxText + 10
	l, at, e := oper.Split(strings.Repeat(" ", n) + strings.Repeat("; ", n) + strings.Repeat("\t", n))
	if len(l) != n || at != 0 || e != api.OK || slices.ContainsFunc(l, func(op int) bool { return op != 14 }) {
		t.Errorf("%d operators, %d %d", len(l), at, e)
	}
	l, at, e = oper.Split(strings.Repeat(";;", n) + strings.Repeat(" ", n) + "-")
	if len(l) != 0 || at != 3*n || e != api.ErrByte {
		t.Errorf("%d operators, %d %d", len(l), at, e)
	}
	s, e := oper.Write(slices.Repeat([]int{13}, n)...)
	if s != strings.Repeat("& ", n-1)+"&" || e != api.OK {
		t.Errorf("%d bytes, %d", len(s), e)
	}
	s, e = oper.Write(append(slices.Repeat([]int{5}, n), 18)...)
	if s != "" || e != api.ErrKind {
		t.Errorf("%d bytes, %d", len(s), e)
	}
}

// P5.3: operators written one behind the other, a space where they aren't tight.
func TestWrite(t *testing.T) {
	for _, c := range []struct {
		l []int
		s string
	}{
		{nil, ""},
		{[]int{}, ""},
		{[]int{13, 13}, "& &"}, // the chapter's example
		{[]int{5}, "<<-"},
		{[]int{1, 13}, "&&&"},
		{[]int{13, 1}, "& &&"},
		{[]int{4, 11}, "<<<"},
		{[]int{11, 4}, "< <<"},
		{[]int{11, 5}, "< <<-"},
		{[]int{4, 5}, "<<<<-"},
		{[]int{12, 15}, "> |"},
		{[]int{11, 15}, "<|"},
		{[]int{12, 11}, "><"},
		{[]int{11, 12}, "< >"},
		{[]int{3, 14}, ";;;"},
		{[]int{14, 3}, "; ;;"},
		{[]int{14, 13}, ";&"},
		{[]int{16, 16, 17, 17}, "(())"},
		{[]int{14, 14, 14}, "; ; ;"},
		{[]int{15, 15, 2, 15}, "| | |||"},
		{[]int{1, 2, 3, 4, 5, 6, 7, 8, 9, 10, 11, 12, 13, 14, 15, 16, 17}, "&&||;;<<<<->><&>&<>>|< > &;|()"},
	} {
		if s, e := oper.Write(c.l...); s != c.s || e != api.OK {
			t.Errorf("Write(%v) %q %d, not %q", c.l, s, e, c.s)
		}
	}
	if s, e := oper.Write(); s != "" || e != api.OK {
		t.Errorf("Write() %q %d", s, e)
	}
	for i, text := range list {
		if s, e := oper.Write(i + 1); s != text || e != api.OK {
			t.Errorf("Write(%d) %q %d", i+1, s, e)
		}
		for k, other := range list {
			want := text + other
			if !tight(i+1, k+1) {
				want = text + " " + other
			}
			if s, e := oper.Write(i+1, k+1); s != want || e != api.OK {
				t.Errorf("Write(%d, %d) %q %d, not %q", i+1, k+1, s, e, want)
			}
		}
	}
}

// P5.3: rows with a number, or two, that are no operators, wherever they stand.
func TestWriteNone(t *testing.T) {
	row := []int{1, 13, 13, 5, 11, 12}
	for _, op := range none {
		writes(t, []int{op})
		writes(t, []int{op, op})
		for i := range len(row) + 1 {
			one := slices.Insert(slices.Clone(row), i, op)
			if s, e := oper.Write(one...); s != "" || e != api.ErrKind {
				t.Errorf("Write(%v) %q %d", one, s, e)
			}
			for k := range len(one) + 1 {
				two := slices.Insert(slices.Clone(one), k, none[(i+k)%len(none)])
				if s, e := oper.Write(two...); s != "" || e != api.ErrKind {
					t.Errorf("Write(%v) %q %d", two, s, e)
				}
			}
		}
	}
}

// P5.4: Split of Write is the list, for all rows of up to three operators, and long ones.
func TestSplitWrite(t *testing.T) {
	all := rows(seventeen(), 3)
	if len(all) != 1+17+17*17+17*17*17 {
		t.Fatalf("%d rows", len(all))
	}
	next := counter()
	for range 200 {
		var long []int
		for range next(300) {
			long = append(long, 1+next(16))
		}
		all = append(all, long)
	}
	for _, l := range all {
		writes(t, l)
		s, e := oper.Write(l...)
		if e != api.OK {
			t.Fatalf("Write(%v) %d", l, e)
		}
		if again, at, e := oper.Split(s); !slices.Equal(again, l) || at != 0 || e != api.OK {
			t.Fatalf("Split(%q) %v %d %d, not %v", s, again, at, e, l)
		}
	}
}

// counter answers numbers from 0 to a most, the same row of them each time.
func counter() func(most int) int {
	number := uint32(1)
	return func(most int) int {
		number = number*1664525 + 1013904223
		return int(number>>8) % (most + 1)
	}
}

// P1: any bytes at any place, any numbers: every call answers.
func TestAny(t *testing.T) {
	next := counter()
	for range 500 {
		var some, near []byte
		var l []int
		for range next(60) {
			some = append(some, byte(next(255)))
			near = append(near, "&|;<>()- \t"[next(9)])
			l = append(l, next(19)-1)
		}
		for _, s := range []string{string(some), string(near), string(near) + string(some)} {
			stands(t, s)
			is(t, s)
			splits(t, s)
		}
		writes(t, l)
	}
}

// R4: what is answered may be written over, and grown; what is handed in is as it was, and what lies behind it, too.
func TestNew(t *testing.T) {
	want := []int{13, 13, 5}
	const s = "& & <<-"
	first, _, _ := oper.Split(s)
	second, _, _ := oper.Split(s)
	clear(first[:cap(first)])
	third, _, _ := oper.Split(s)
	if !slices.Equal(second, want) || !slices.Equal(third, want) {
		t.Errorf("%v, %v", second, third)
	}
	behind := []int{13, 13, 5, 99, -1}
	text, e := oper.Write(behind[:3]...)
	if text != "& &<<-" || e != api.OK || !slices.Equal(behind, []int{13, 13, 5, 99, -1}) {
		t.Errorf("%q %d, and %v", text, e, behind)
	}
	clear(behind)
	if again, _ := oper.Write(want...); text != "& &<<-" || again != text {
		t.Errorf("%q, %q", text, again)
	}
}
