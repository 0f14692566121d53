package reparse_test

import (
	"math"
	"math/rand/v2"
	"slices"
	"strconv"
	"strings"
	"testing"

	"quillwort/api"
	"quillwort/edit"
	"quillwort/parse"
	"quillwort/reparse"
	"quillwort/token"
)

// quoted is a text as one can read it; of a long one the beginning.
func quoted(s string) string {
	if len(s) > 200 {
		return strconv.Quote(s[:200]) + " and " + strconv.Itoa(len(s)-200) + " bytes"
	}
	return strconv.Quote(s)
}

// opened is a parsed text.
func opened(t *testing.T, s string) *reparse.Doc {
	t.Helper()
	d, bad := reparse.New(s)
	if d == nil || bad != api.OK {
		t.Fatalf("New of %s: %d", quoted(s), bad)
	}
	return d
}

// is checks all that a Doc tells against what layers 9 and 13 make of a text alone; false: it is otherwise.
func is(t *testing.T, what string, d *reparse.Doc, s string) bool {
	t.Helper()
	what += ": " + quoted(s)
	if got := d.Text(); got != s {
		t.Errorf("%s: the text is %s", what, quoted(got))
		return false
	}
	if want, _ := token.Lex(s); !slices.Equal(d.Tokens(), want) {
		t.Errorf("%s: the tokens are others", what)
		return false
	}
	leaves, nodes := parse.Of(s)
	if !slices.Equal(d.Leaves(), leaves) {
		t.Errorf("%s: the leaves are others", what)
		return false
	}
	if l := d.Tree(); !slices.Equal(l, nodes) {
		t.Errorf("%s: the tree is %s, not %s", what, shown(l), shown(nodes))
		return false
	}
	return true
}

// applied checks an edit of a Doc whose text is s, and tells the text behind it; false: something is otherwise.
func applied(t *testing.T, d *reparse.Doc, s string, e api.Edit) (string, bool) {
	t.Helper()
	what := strconv.Itoa(e.At) + " " + quoted(e.Del) + " " + quoted(e.Ins)
	now, want := edit.Do(s, e)
	n, bad := d.Apply(e)
	if bad != want {
		t.Errorf("%s of %s: error %d, not %d", what, quoted(s), bad, want)
		return s, false
	}
	if bad != api.OK {
		if n != 0 {
			t.Errorf("%s of %s: %d taken over beside an error", what, quoted(s), n)
		}
		return s, n == 0 && is(t, what+", refused", d, s)
	}
	if over := takenOver(of(s), of(now)); n != over {
		t.Errorf("%s of %s: %d taken over, not %d", what, quoted(s), n, over)
		return now, false
	}
	return now, is(t, what, d, now)
}

// TestNew: P14.2, from the empty text to the longest one, and one byte more.
func TestNew(t *testing.T) {
	for _, s := range append([]string{"", "a", "a; b", "\x00\xff", "if a; then", "cat <<E\na\nE\nb"}, pieces...) {
		is(t, "new", opened(t, s), s)
	}
	for _, s := range []string{"a", "a b;\nc)\n", "$(", "(aaaaaaaaaa"} {
		s = strings.Repeat(s, api.MaxText/len(s)+1)
		is(t, "new", opened(t, s[:api.MaxText]), s[:api.MaxText])
		if d, bad := reparse.New(s[:api.MaxText] + "a"); d != nil || bad != api.ErrLarge {
			t.Errorf("one byte more: %v, %d", d != nil, bad)
		}
		if d, bad := reparse.New(s + s); d != nil || bad != api.ErrLarge {
			t.Errorf("twice as long: %v, %d", d != nil, bad)
		}
	}
}

// TestApply: P14.2 for edits by hand, with how many commands each of them takes over.
func TestApply(t *testing.T) {
	for _, c := range []struct {
		s    string
		e    api.Edit
		now  string
		want int
	}{
		{"a; b; c", api.Edit{At: 0, Del: "a", Ins: "x"}, "x; b; c", 2},
		{"a; b; c", api.Edit{At: 3, Del: "b", Ins: "x"}, "a; x; c", 1},
		{"a; b; c", api.Edit{At: 6, Del: "c", Ins: "x"}, "a; b; x", 1},
		{"a; b; c", api.Edit{At: 7, Ins: "\n\n"}, "a; b; c\n\n", 2},
		{"a; b; c", api.Edit{At: 3, Ins: "d; "}, "a; d; b; c", 2},
		{"a; b; c", api.Edit{Del: "a; b; c"}, "", 0},
		{"", api.Edit{Ins: "a; b"}, "a; b", 0},
		{"", api.Edit{}, "", 0},
		// the text that stood there
		{"a; b; c", api.Edit{At: 3, Del: "b", Ins: "b"}, "a; b; c", 2},
		{"a; b; c", api.Edit{At: 3}, "a; b; c", 2},
		{"a; b; c", api.Edit{Del: "a; b; c", Ins: "a; b; c"}, "a; b; c", 2},
		// two are joined, one is parted
		{"a; b; c; d", api.Edit{At: 4, Del: ";"}, "a; b c; d", 2},
		{"a; b c; d", api.Edit{At: 4, Ins: ";"}, "a; b; c; d", 2},
		{"a; b; c; d", api.Edit{At: 4, Del: ";", Ins: " |"}, "a; b | c; d", 2},
		{"a; bc; d", api.Edit{At: 4, Ins: "\n"}, "a; b\nc; d", 1},
		{"a\n\nb; c", api.Edit{At: 5, Ins: " &&"}, "a\n\nb; && c", 2},
		{"a\n\nb; c", api.Edit{At: 4, Del: ";", Ins: " &&"}, "a\n\nb && c", 1},
		// quotes
		{"a; b; c'd; e", api.Edit{At: 0, Ins: "'"}, "'a; b; c'd; e", 0},
		{"'a; b; c'd; e", api.Edit{At: 0, Del: "'"}, "a; b; c'd; e", 0},
		{"a\n\nb 'c; d", api.Edit{At: 7, Ins: "'"}, "a\n\nb 'c'; d", 1},
		{"a; b; c", api.Edit{At: 3, Ins: "\""}, "a; \"b; c", 0},
		{"a;\nb; c", api.Edit{At: 3, Ins: "\""}, "a;\n\"b; c", 1},
		// a comment
		{"a\n\nb; c\nd", api.Edit{At: 3, Ins: "#"}, "a\n\n#b; c\nd", 2},
		{"a\n\n#b; c\nd", api.Edit{At: 3, Del: "#"}, "a\n\nb; c\nd", 2},
		{"a #b; c\nd", api.Edit{At: 2, Del: "#"}, "a b; c\nd", 1},
		// substitutions
		{"a; b; c); d", api.Edit{At: 0, Ins: "$("}, "$(a; b; c); d", 1},
		{"$(a; b; c); d", api.Edit{At: 0, Del: "$("}, "a; b; c); d", 1},
		{"$(a; b; c); d", api.Edit{At: 9, Del: ")"}, "$(a; b; c; d", 0},
		{"a; `b; c; d", api.Edit{At: 8, Ins: "`"}, "a; `b; c`; d", 0},
		// here-documents
		{"cat <E\na; b\nE\nc; d", api.Edit{At: 4, Ins: "<"}, "cat <<E\na; b\nE\nc; d", 2},
		{"cat <<E\na; b\nE\nc; d", api.Edit{At: 4, Del: "<"}, "cat <E\na; b\nE\nc; d", 2},
		{"a\n\ncat <<E\nb\nE\nc", api.Edit{At: 13, Del: "E", Ins: "F"}, "a\n\ncat <<E\nb\nF\nc", 1},
		{"a\n\ncat <<E\nb\nE\nc", api.Edit{At: 11, Del: "b", Ins: "x; y"}, "a\n\ncat <<E\nx; y\nE\nc", 2},
		{"cat <<E\nb\nE\nc; d", api.Edit{At: 6, Del: "E", Ins: "b"}, "cat <<b\nb\nE\nc; d", 2},
		// compounds
		{"a\n\nb; c; }; d", api.Edit{At: 3, Ins: "{ "}, "a\n\n{ b; c; }; d", 2},
		{"a\n\n{ b; c; }; d", api.Edit{At: 3, Del: "{ "}, "a\n\nb; c; }; d", 2},
		{"(a; b; c); d", api.Edit{At: 8, Del: ")"}, "(a; b; c; d", 0},
		{"(a; b; c; d", api.Edit{At: 8, Ins: ")"}, "(a; b; c); d", 0},
		{"if a; then b; fi; c; d", api.Edit{At: 14, Del: "f"}, "if a; then b; i; c; d", 0},
		{"if a; then b; i; c; d", api.Edit{At: 14, Ins: "f"}, "if a; then b; fi; c; d", 0},
		{"f() { a; }; b", api.Edit{At: 1, Del: "()"}, "f { a; }; b", 1},
		{"f { a; }; b", api.Edit{At: 1, Ins: "()"}, "f() { a; }; b", 1},
	} {
		d := opened(t, c.s)
		if n, bad := d.Apply(c.e); n != c.want || bad != api.OK {
			t.Errorf("%v of %q: %d taken over, error %d, not %d", c.e, c.s, n, bad, c.want)
		}
		is(t, "behind an edit", d, c.now)
		if now, ok := applied(t, opened(t, c.s), c.s, c.e); ok && now != c.now {
			t.Errorf("%v of %q: %q, not %q", c.e, c.s, now, c.now)
		}
	}
}

// TestRefused: P14.2 for edits that don't go with the text, and R5.
func TestRefused(t *testing.T) {
	for _, s := range []string{"", "a", "a; b\n\nc", "$(a; 'b", "cat <<E\na\nE\nb"} {
		d := opened(t, s)
		for _, at := range []int{math.MinInt, math.MinInt + 1, -api.MaxText, -2, -1, len(s) + 1, len(s) + 2, api.MaxText, api.MaxText + 1, math.MaxInt - 1, math.MaxInt} {
			for _, e := range []api.Edit{{At: at}, {At: at, Ins: "b"}, {At: at, Del: s}, {At: at, Del: "a", Ins: "a"}} {
				if n, bad := d.Apply(e); n != 0 || bad != api.ErrRange {
					t.Errorf("%v of %q: %d, error %d", e, s, n, bad)
				}
				is(t, "behind a refused edit", d, s)
			}
		}
		great := strings.Repeat("a;", api.MaxText/2)
		for _, c := range []struct {
			e    api.Edit
			want api.Errno
		}{
			{api.Edit{Del: "x"}, api.ErrRange},
			{api.Edit{Del: s + "a"}, api.ErrRange},
			{api.Edit{At: len(s), Del: "a"}, api.ErrRange},
			{api.Edit{Del: "x", Ins: great + "a"}, api.ErrRange},
			{api.Edit{Ins: great + "a"}, api.ErrLarge},
			{api.Edit{At: len(s), Ins: great[len(s):] + "a"}, api.ErrLarge},
			{api.Edit{Del: s, Ins: great + "a"}, api.ErrLarge},
		} {
			if n, bad := d.Apply(c.e); n != 0 || bad != c.want {
				t.Errorf("of %q: %d, error %d, not %d", s, n, bad, c.want)
			}
			is(t, "behind a refused edit", d, s)
		}
	}
	great := strings.Repeat("a bcd ef", api.MaxText/8)
	d := opened(t, "a; b")
	if _, ok := applied(t, d, "a; b", api.Edit{At: 4, Ins: great[4:]}); ok {
		for _, e := range []api.Edit{{Ins: "a"}, {At: api.MaxText, Ins: "\n"}, {Del: "a; b", Ins: "a; b;"}} {
			if n, bad := d.Apply(e); n != 0 || bad != api.ErrLarge {
				t.Errorf("of the longest text: %d, error %d", n, bad)
			}
		}
		is(t, "the longest text", d, "a; b"+great[4:])
	}
}

// TestWays: P14.3, different ways to one text.
func TestWays(t *testing.T) {
	for _, s := range []string{"", "a; b\n\nc; d", "if a; then b; fi; c", "cat <<E\na; b\nE\nc", "'a; b'; \"$(c; d)\"", "a ) b\n\nc", "{ a; }\n\n(b)\nf() { c; }"} {
		whole := opened(t, s)
		forth, back, odd := opened(t, ""), opened(t, ""), opened(t, "x; y")
		var at string
		for i := range len(s) { // byte by byte, from the beginning on
			at, _ = applied(t, forth, at, api.Edit{At: i, Ins: s[i : i+1]})
		}
		at = ""
		for i := range len(s) { // from the end on
			at, _ = applied(t, back, at, api.Edit{Ins: s[len(s)-1-i : len(s)-i]})
		}
		at, _ = applied(t, odd, "x; y", api.Edit{At: 1, Ins: "\n" + s + "\n(("}) // as a part of something else
		at, _ = applied(t, odd, at, api.Edit{At: 2 + len(s), Del: "\n((; y"})
		at, _ = applied(t, odd, at, api.Edit{Del: "x\n"})
		for i, d := range []*reparse.Doc{whole, forth, back, odd} {
			is(t, "by way "+strconv.Itoa(i), d, s)
			for j := range len(s) + 1 { // and what an edit takes over then is the same, too
				e := api.Edit{At: j, Ins: ";"}
				if _, ok := applied(t, d, s, e); !ok {
					return
				}
				now, _ := edit.Do(s, e)
				if _, ok := applied(t, d, now, edit.Inverse(e)); !ok {
					return
				}
			}
		}
	}
}

// TestEveryEdit: P14.2 and P14.3 for each edit of a few bytes at each place, and its inverse.
func TestEveryEdit(t *testing.T) {
	for _, s := range []string{"a; b\n\nc", "{ a; }; b&\n(c)", "a <<E\nb\nE\nc;d", "'a'; $(b; c)\n\nd #e\nf"} {
		d := opened(t, s)
		for at := range len(s) + 1 {
			for n := range min(3, len(s)-at+1) {
				for _, ins := range []string{"", "a", ";", "\n", "'", "\"", "#", "$(", ")", "<", "(", "{ ", "\\", "\x00", " ", "&", s[at : at+n]} {
					e := api.Edit{At: at, Del: s[at : at+n], Ins: ins}
					now, ok := applied(t, d, s, e)
					if !ok {
						return
					}
					if again, ok := applied(t, d, now, edit.Inverse(e)); !ok || again != s {
						return
					}
				}
			}
		}
	}
}

// TestManyEdits: P14.3 for many edits one behind the other, refused ones among them.
func TestManyEdits(t *testing.T) {
	r := rand.New(rand.NewPCG(14, 5))
	for range 150 {
		s := drawnText(r, r.IntN(10))
		d := opened(t, s)
		for range 100 {
			from := r.IntN(len(s) + 1)
			to := from + r.IntN(min(len(s)-from, 12)+1)
			e := api.Edit{At: from, Del: s[from:to]}
			if len(s) < 400 {
				e.Ins = drawnText(r, r.IntN(3))
				e.Ins = e.Ins[:r.IntN(len(e.Ins)+1)]
			}
			if r.IntN(10) == 0 {
				e.At += r.IntN(9) - 4
			}
			var ok bool
			if s, ok = applied(t, d, s, e); !ok {
				return
			}
		}
	}
}

// TestGreatTexts: P14.2 and P14.3 for great texts.
func TestGreatTexts(t *testing.T) {
	for _, part := range []string{"a\n", "a ) b;", "(", "$(a\n", "<<E\n", "a'\n"} {
		s := strings.Repeat(part, api.MaxText/128/len(part))
		d := opened(t, s)
		for _, at := range []int{0, len(s) / 2, len(s)} {
			for _, ins := range []string{"b", "'", "\n"} {
				e := api.Edit{At: at, Ins: ins}
				now, ok := applied(t, d, s, e)
				if !ok {
					return
				}
				if _, ok := applied(t, d, now, edit.Inverse(e)); !ok {
					return
				}
			}
		}
	}
	s := strings.Repeat("a; b\n\n", api.MaxText/6) // 3 leaves of each that is as it was
	applied(t, opened(t, s), s, api.Edit{At: len(s) / 2, Ins: "cd"})
}

// TestAnswersWrittenOver: R4, nothing of a Doc changes by what is done to its answers.
func TestAnswersWrittenOver(t *testing.T) {
	s := "a; b\n\n{ c; d; }\ncat <<E\ne\nE\nf"
	d, other := opened(t, s), opened(t, s)
	for range 2 {
		wipe(d.Tokens())
		wipe(d.Leaves())
		wipe(d.Tree())
		is(t, "written over", d, s)
		for _, e := range []api.Edit{{At: 3, Del: "b", Ins: "x y"}, {At: 0, Ins: "z\n\n"}} {
			now, ok := applied(t, d, s, e)
			if !ok {
				return
			}
			wipe(d.Tree())
			s, _ = applied(t, d, now, edit.Inverse(e))
		}
		is(t, "another one of the same text", other, s)
	}
	l, leaves := d.Tree(), d.Leaves()
	was, wasLeaves := slices.Clone(l), slices.Clone(leaves)
	applied(t, d, s, api.Edit{Ins: "g; "})
	if !slices.Equal(l, was) || !slices.Equal(leaves, wasLeaves) {
		t.Error("an edit changed what was told ahead of it")
	}
}
