package lines_test

import (
	"math"
	"strconv"
	"strings"
	"testing"

	"quillwort/api"
	"quillwort/edit"
	"quillwort/lines"
)

// far are places, lines and columns outside any text.
var far = []int{math.MinInt, math.MinInt + 1, -api.MaxText, -2, -1, api.MaxText + 1, math.MaxInt - 1, math.MaxInt}

// texts are all texts of at most so many bytes, each of them a letter or a newline.
func texts(most int) []string {
	all := []string{""}
	for from := 0; most > 0; most-- {
		to := len(all)
		for ; from < to; from++ {
			all = append(all, all[from]+"a", all[from]+"\n")
		}
	}
	return all
}

// put is the number from 0 to most that is nearest to n.
func put(n, most int) int {
	if n < 0 {
		return 0
	}
	if n > most {
		return most
	}
	return n
}

// isOf checks that an index answers every call as the words of the chapter say of a text.
func isOf(t *testing.T, what string, x *lines.Index, s string) {
	t.Helper()
	rows := strings.Split(s, "\n")
	if n := x.Count(); n != len(rows) {
		t.Errorf("%s: Count %d, not %d", what, n, len(rows))
		return // what follows would tell the same
	}
	wheres(t, what, x, s)
	from := 0
	for line, row := range rows {
		spans(t, what, x, line, from, row)
		from += len(row) + 1
	}
	for _, line := range append([]int{-1, len(rows), len(rows) + 1}, far...) {
		if line >= 0 && line < len(rows) {
			continue
		}
		if a, b, bad := x.Span(line); a != 0 || b != 0 || bad != api.ErrRange {
			t.Errorf("%s: Span(%d) %d %d %d", what, line, a, b, bad)
		}
		for _, col := range append([]int{0, 1}, far...) {
			if at, bad := x.At(line, col); at != 0 || bad != api.ErrRange {
				t.Errorf("%s: At(%d, %d) %d %d", what, line, col, at, bad)
			}
			near, _ := x.At(put(line, len(rows)-1), put(col, len(rows[put(line, len(rows)-1)])))
			if at := x.Near(line, col); at != near {
				t.Errorf("%s: Near(%d, %d) %d, not %d", what, line, col, at, near)
			}
		}
	}
}

// wheres checks what an index tells of each place, and of places outside.
func wheres(t *testing.T, what string, x *lines.Index, s string) {
	t.Helper()
	for at := range len(s) + 1 {
		ahead := s[:at]
		line, col, bad := x.Where(at)
		if line != strings.Count(ahead, "\n") || col != at-strings.LastIndexByte(ahead, '\n')-1 || bad != api.OK {
			t.Errorf("%s: Where(%d) %d %d %d", what, at, line, col, bad)
		}
	}
	for _, at := range append([]int{-1, len(s) + 1}, far...) {
		if at >= 0 && at <= len(s) {
			continue
		}
		if line, col, bad := x.Where(at); line != 0 || col != 0 || bad != api.ErrRange {
			t.Errorf("%s: Where(%d) %d %d %d", what, at, line, col, bad)
		}
	}
}

// spans checks what an index tells of a line that there is, and of its columns.
func spans(t *testing.T, what string, x *lines.Index, line, from int, row string) {
	t.Helper()
	if a, b, bad := x.Span(line); a != from || b != from+len(row) || bad != api.OK {
		t.Errorf("%s: Span(%d) %d %d %d, not %d %d", what, line, a, b, bad, from, from+len(row))
	}
	for col := range len(row) + 1 {
		if at, bad := x.At(line, col); at != from+col || bad != api.OK {
			t.Errorf("%s: At(%d, %d) %d %d, not %d", what, line, col, at, bad, from+col)
		}
		if at := x.Near(line, col); at != from+col {
			t.Errorf("%s: Near(%d, %d) %d, not %d", what, line, col, at, from+col)
		}
	}
	for _, col := range append([]int{-1, len(row) + 1}, far...) {
		if col >= 0 && col <= len(row) {
			continue
		}
		if at, bad := x.At(line, col); at != 0 || bad != api.ErrRange {
			t.Errorf("%s: At(%d, %d) %d %d", what, line, col, at, bad)
		}
		if at := x.Near(line, col); at != from+put(col, len(row)) {
			t.Errorf("%s: Near(%d, %d) %d, not %d", what, line, col, at, from+put(col, len(row)))
		}
	}
}

// P3.1: the example, and the edges that are easily told.
func TestIndex(t *testing.T) {
	x := lines.New("a\nb")
	if n := x.Count(); n != 2 {
		t.Errorf("Count %d", n)
	}
	for _, c := range []struct {
		s             string
		at, line, col int
		bad           api.Errno
	}{
		{"a\nb", -1, 0, 0, api.ErrRange},
		{"a\nb", 0, 0, 0, api.OK},
		{"a\nb", 1, 0, 1, api.OK},
		{"a\nb", 2, 1, 0, api.OK},
		{"a\nb", 3, 1, 1, api.OK},
		{"a\nb", 4, 0, 0, api.ErrRange},
		{"", -1, 0, 0, api.ErrRange},
		{"", 0, 0, 0, api.OK},
		{"", 1, 0, 0, api.ErrRange},
		{"a\n", 1, 0, 1, api.OK},
		{"a\n", 2, 1, 0, api.OK},
		{"a\n", 3, 0, 0, api.ErrRange},
		{"\n\n", 0, 0, 0, api.OK},
		{"\n\n", 1, 1, 0, api.OK},
		{"\n\n", 2, 2, 0, api.OK},
		{"a\r\n\x00\xff\x80", 2, 0, 2, api.OK},
		{"a\r\n\x00\xff\x80", 6, 1, 3, api.OK},
	} {
		x := lines.New(c.s)
		line, col, bad := x.Where(c.at)
		if line != c.line || col != c.col || bad != c.bad {
			t.Errorf("%q: Where(%d) %d %d %d, not %d %d %d", c.s, c.at, line, col, bad, c.line, c.col, c.bad)
		}
		if at, bad := x.At(line, col); c.bad == api.OK && (at != c.at || bad != api.OK) {
			t.Errorf("%q: At(%d, %d) %d %d, not %d", c.s, line, col, at, bad, c.at)
		}
	}
}

// P3.1: how many lines there are, and where each begins and ends.
func TestSpan(t *testing.T) {
	for _, c := range []struct {
		s     string
		spans []int // from and to, line by line
	}{
		{"", []int{0, 0}},
		{"a", []int{0, 1}},
		{"a\nb", []int{0, 1, 2, 3}},
		{"a\n", []int{0, 1, 2, 2}},
		{"\n", []int{0, 0, 1, 1}},
		{"\n\n\n", []int{0, 0, 1, 1, 2, 2, 3, 3}},
		{"ab\n\ncde", []int{0, 2, 3, 3, 4, 7}},
		{"a\r\vb\x00\n\xff\xfe", []int{0, 5, 6, 8}},
	} {
		x := lines.New(c.s)
		if n := x.Count(); n != len(c.spans)/2 {
			t.Errorf("%q: Count %d, not %d", c.s, n, len(c.spans)/2)
			continue
		}
		for line := range len(c.spans) / 2 {
			from, to, bad := x.Span(line)
			if from != c.spans[2*line] || to != c.spans[2*line+1] || bad != api.OK {
				t.Errorf("%q: Span(%d) %d %d %d", c.s, line, from, to, bad)
			}
		}
		for _, line := range []int{-1, len(c.spans) / 2} {
			if from, to, bad := x.Span(line); from != 0 || to != 0 || bad != api.ErrRange {
				t.Errorf("%q: Span(%d) %d %d %d", c.s, line, from, to, bad)
			}
		}
	}
}

// P3.1: a line's length is a column yet, and the newline is none; what is beyond isn't the next line's.
func TestAt(t *testing.T) {
	x := lines.New("ab\n\ncde")
	for _, c := range []struct {
		line, col, at int
		bad           api.Errno
	}{
		{0, 0, 0, api.OK},
		{0, 2, 2, api.OK},
		{0, 3, 0, api.ErrRange},
		{0, -1, 0, api.ErrRange},
		{1, 0, 3, api.OK},
		{1, 1, 0, api.ErrRange},
		{1, -1, 0, api.ErrRange},
		{2, 0, 4, api.OK},
		{2, 3, 7, api.OK},
		{2, 4, 0, api.ErrRange},
		{3, 0, 0, api.ErrRange},
		{-1, 0, 0, api.ErrRange},
		{-1, -1, 0, api.ErrRange},
		{1, math.MaxInt, 0, api.ErrRange},
		{1, math.MinInt, 0, api.ErrRange},
		{math.MaxInt, 0, 0, api.ErrRange},
		{math.MinInt, 0, 0, api.ErrRange},
	} {
		if at, bad := x.At(c.line, c.col); at != c.at || bad != c.bad {
			t.Errorf("At(%d, %d) %d %d, not %d %d", c.line, c.col, at, bad, c.at, c.bad)
		}
	}
}

// P3.2: the line is put to the nearest first, and then the column to the nearest of that line.
func TestNear(t *testing.T) {
	for _, c := range []struct {
		s             string
		line, col, at int
	}{
		{"ab\n\ncde", 0, 1, 1},
		{"ab\n\ncde", 0, 2, 2},
		{"ab\n\ncde", 0, 3, 2},
		{"ab\n\ncde", 0, -1, 0},
		{"ab\n\ncde", 1, 2, 3},
		{"ab\n\ncde", 1, -2, 3},
		{"ab\n\ncde", 2, 3, 7},
		{"ab\n\ncde", 2, 4, 7},
		{"ab\n\ncde", 3, 1, 5},
		{"ab\n\ncde", -1, 1, 1},
		{"ab\n\ncde", -1, 9, 2},
		{"ab\n\ncde", 9, -9, 4},
		{"ab\n\ncde", math.MaxInt, math.MaxInt, 7},
		{"ab\n\ncde", math.MaxInt, math.MinInt, 4},
		{"ab\n\ncde", math.MinInt, math.MaxInt, 2},
		{"ab\n\ncde", math.MinInt, math.MinInt, 0},
		{"", 5, 5, 0},
		{"", -5, -5, 0},
		{"ab\n", 5, 5, 3},
		{"ab\n", 0, 5, 2},
		{"\n\n", 1, 5, 1},
		{"\n\n", 5, 5, 2},
	} {
		if at := lines.New(c.s).Near(c.line, c.col); at != c.at {
			t.Errorf("%q: Near(%d, %d) %d, not %d", c.s, c.line, c.col, at, c.at)
		}
	}
}

// P3.2: the lines of a text are what newlines part.
func TestOf(t *testing.T) {
	for _, s := range append(texts(6), "ls -l\necho 'a\nb'\n", "\x00\n\xff\r\n\x80", "ab\n\ncde\n\n") {
		rows := strings.Split(s, "\n")
		for line, row := range rows {
			if got, bad := lines.Of(s, line); got != row || bad != api.OK {
				t.Errorf("Of(%q, %d) %q %d, not %q", s, line, got, bad, row)
			}
		}
		for _, line := range append([]int{-1, len(rows), len(rows) + 1}, far...) {
			if line >= 0 && line < len(rows) {
				continue
			}
			if got, bad := lines.Of(s, line); got != "" || bad != api.ErrRange {
				t.Errorf("Of(%q, %d) %q %d", s, line, got, bad)
			}
		}
	}
}

// P3.1, P3.2: all short texts, and some more, at all places, lines and columns.
func TestAllTexts(t *testing.T) {
	for _, s := range append(texts(7), "ab\r\ncd\x00\n\xff\x80\n", strings.Repeat("\n", 70), strings.Repeat("abc\n", 30)+"abc", "é\nπ\n\u2028\u0085\v\f") {
		isOf(t, strconv.Quote(s), lines.New(s), s)
	}
}

// applied is the index of a text behind edits that are to go.
func applied(t *testing.T, what, s string, l ...api.Edit) *lines.Index {
	t.Helper()
	x := lines.New(s)
	for i, e := range l {
		if bad := x.Apply(e); bad != api.OK {
			t.Errorf("%s: edit %d: %d", what, i, bad)
		}
	}
	return x
}

// P3.3: edits, and what the text is then.
func TestApply(t *testing.T) {
	for _, c := range []struct {
		what, s string
		e       api.Edit
		then    string
	}{
		{"nothing", "a\nb", api.Edit{At: 1}, "a\nb"},
		{"nothing, of nothing", "", api.Edit{}, ""},
		{"a text for the empty one", "", api.Edit{Ins: "a\n\nb"}, "a\n\nb"},
		{"the empty text", "a\n\nb", api.Edit{Del: "a\n\nb"}, ""},
		{"at the beginning", "a\nb", api.Edit{Ins: "xy"}, "xya\nb"},
		{"a newline at the beginning", "a\nb", api.Edit{Ins: "\n"}, "\na\nb"},
		{"gone at the beginning", "ab\nc", api.Edit{Del: "ab\n"}, "c"},
		{"at the end", "a\nb", api.Edit{At: 3, Ins: "xy"}, "a\nbxy"},
		{"a newline at the end", "a\nb", api.Edit{At: 3, Ins: "\n"}, "a\nb\n"},
		{"gone at the end", "a\nbc\n", api.Edit{At: 3, Del: "c\n"}, "a\nb"},
		{"ahead of a newline", "a\nb", api.Edit{At: 1, Ins: "\nx"}, "a\nx\nb"},
		{"behind a newline", "a\nb", api.Edit{At: 2, Ins: "x\n"}, "a\nx\nb"},
		{"newlines come", "abc\nd", api.Edit{At: 1, Ins: "\n\n\n"}, "a\n\n\nbc\nd"},
		{"newlines go", "a\n\n\nbc\nd", api.Edit{At: 1, Del: "\n\n\n"}, "abc\nd"},
		{"newlines for others", "a\nb\nc\nd", api.Edit{At: 1, Del: "\nb\n", Ins: "x\ny\nzz\n"}, "ax\ny\nzz\nc\nd"},
		{"fewer newlines", "a\nb\nc\nd", api.Edit{At: 1, Del: "\nb\n", Ins: "\n"}, "a\nc\nd"},
		{"longer, without newlines", "a\nb\nc", api.Edit{At: 2, Del: "b", Ins: "long"}, "a\nlong\nc"},
		{"any bytes", "a\xff\n\x00", api.Edit{At: 1, Del: "\xff\n", Ins: "\x80\n\x00\n"}, "a\x80\n\x00\n\x00"},
	} {
		isOf(t, c.what, applied(t, c.what, c.s, c.e), c.then)
	}
}

// P3.3: what is outside, or has another number of newlines, is refused, and nothing is changed.
func TestApplyRefused(t *testing.T) {
	const s = "ab\n\ncde"
	for _, e := range []api.Edit{
		{At: -1},
		{At: -1, Ins: "x\n"},
		{At: -1, Del: "ab", Ins: "\n"},
		{At: 8},
		{At: 8, Ins: "x\n"},
		{At: 7, Del: "x"},
		{At: 5, Del: "dex", Ins: "\n"},
		{At: 0, Del: "ab\n\ncdef"},
		{At: math.MaxInt, Del: "ab", Ins: "\n"},
		{At: math.MinInt, Del: "ab", Ins: "\n"},
		{At: math.MaxInt - 1, Del: "ab\n"},
		{At: 0, Del: "a\n", Ins: "\n"},
		{At: 0, Del: "abc", Ins: "\n"},
		{At: 1, Del: "b\n\n\n"},
		{At: 1, Del: "b\nxy"},
		{At: 2, Del: "x"},
		{At: 2, Del: "\n\n\n", Ins: "xyz\n"},
		{At: 4, Del: "\n"},
		{At: 0, Del: "ab\n\ncd\n"},
		{At: 0, Del: "ab\nxcde"},
	} {
		x := lines.New(s)
		if bad := x.Apply(e); bad != api.ErrRange {
			t.Errorf("%v: %d", e, bad)
		}
		isOf(t, "refused", x, s)
	}
}

// P3.3: bytes of Del that don't stand there, if there are as many of them, with as many newlines.
func TestApplyOtherBytes(t *testing.T) {
	for _, c := range []struct {
		s    string
		e    api.Edit
		then string
	}{
		{"ab\ncd", api.Edit{At: 0, Del: "xy", Ins: "z"}, "z\ncd"},
		{"ab\ncd", api.Edit{At: 1, Del: "\nxy", Ins: "z"}, "azd"},
		{"ab\ncd", api.Edit{At: 1, Del: "xy\n", Ins: "z"}, "azd"},
		{"ab\ncd", api.Edit{At: 0, Del: "1234\n", Ins: "\n\n"}, "\n\n"},
		{"a\nb\nc", api.Edit{At: 0, Del: "\nx\n\xff", Ins: "y\n"}, "y\nc"},
	} {
		what := strconv.Quote(c.s)
		isOf(t, what, applied(t, what, c.s, c.e), c.then)
	}
}

// P3.3, P3.4: all edits of all short texts, whatever they take away, and bring.
func TestAllEdits(t *testing.T) {
	dels, comes := texts(4), []string{"", "a", "\n", "a\n\na", "\n\n"}
	for _, s := range texts(4) {
		for at := -1; at <= len(s)+1; at++ {
			for _, del := range dels {
				for _, ins := range comes {
					applyOne(t, s, api.Edit{At: at, Del: del, Ins: ins})
				}
			}
		}
		if t.Failed() {
			return // the rest would tell the same, thousands of times
		}
	}
}

// applyOne checks an edit of a text's index against the chapter's words.
func applyOne(t *testing.T, s string, e api.Edit) {
	t.Helper()
	then, want := s, api.ErrRange
	if to := e.At + len(e.Del); e.At >= 0 && to <= len(s) && strings.Count(e.Del, "\n") == strings.Count(s[e.At:to], "\n") {
		then, want = s[:e.At]+e.Ins+s[to:], api.OK
	}
	what := strconv.Quote(s) + " at " + strconv.Itoa(e.At) + " " + strconv.Quote(e.Del) + " " + strconv.Quote(e.Ins)
	x := lines.New(s)
	if bad := x.Apply(e); bad != want {
		t.Errorf("%s: %d, not %d", what, bad, want)
	}
	isOf(t, what, x, then)
}

// P3.4: an index goes with a text through many edits, some of which are refused, and answers as a new one at each of them.
func TestManyEdits(t *testing.T) {
	number := uint32(1)
	upTo := func(most int) int { // the same row of numbers each time
		number = number*1664525 + 1013904223
		return int(number>>8) % (most + 1)
	}
	pieces := []string{"", "a", "\n", "ls -l\n", "\n\n\n", "if a\nthen b\nfi\n", "\x00\xff", "echo 'x\ny'"}
	s, x := "", lines.New("")
	for i := range 3000 {
		from := upTo(len(s))
		to := min(from+upTo(12), len(s))
		e := api.Edit{At: from, Del: s[from:to], Ins: pieces[upTo(len(pieces)-1)]}
		if bad := x.Apply(api.Edit{At: from, Del: e.Del + "\n", Ins: "\n"}); !strings.HasPrefix(s[to:], "\n") && bad != api.ErrRange {
			t.Fatalf("a newline more than edit %d takes away: %d", i, bad)
		} else if bad == api.OK {
			x.Apply(api.Edit{At: from, Del: "\n", Ins: e.Del + "\n"})
		}
		then, bad := edit.Do(s, e)
		if got := x.Apply(e); got != bad || bad != api.OK {
			t.Fatalf("edit %d: %d, %d", i, got, bad)
		}
		s = then
		isOf(t, "edit "+strconv.Itoa(i), x, s)
		if t.Failed() {
			return
		}
		if len(s) > 200 {
			if bad := x.Apply(api.Edit{At: 0, Del: s[:150]}); bad != api.OK {
				t.Fatalf("edit %d: %d", i, bad)
			}
			s = s[150:]
			isOf(t, "shorter", x, s)
		}
	}
}

// P3.4: undone, an edit leaves the index of the text that was.
func TestInverse(t *testing.T) {
	for _, s := range []string{"", "a", "ab\n\ncde", "\n\n", "a\n"} {
		for at := range len(s) + 1 {
			for to := at; to <= len(s); to++ {
				e := api.Edit{At: at, Del: s[at:to], Ins: "x\n\ny"}
				isOf(t, "undone", applied(t, "undone", s, e, edit.Inverse(e)), s)
			}
		}
	}
}

// P3.3: no length is too great: an index is of texts of any length.
func TestLong(t *testing.T) {
	s := strings.Repeat("\n", api.MaxText+10)
	x := lines.New(s)
	if n := x.Count(); n != api.MaxText+11 {
		t.Errorf("Count %d", n)
	}
	if bad := x.Apply(api.Edit{At: 5, Del: s[5:], Ins: s + "abc"}); bad != api.OK {
		t.Errorf("Apply %d", bad)
	}
	if line, col, bad := x.Where(len(s) + 8); line != api.MaxText+15 || col != 3 || bad != api.OK {
		t.Errorf("Where %d %d %d", line, col, bad)
	}
	if line, bad := lines.Of(s+"abc", api.MaxText+10); line != "abc" || bad != api.OK {
		t.Errorf("Of %q %d", line, bad)
	}
}

// R6: each index is one of its own.
func TestApart(t *testing.T) {
	const s = "a\nb\nc"
	a, b := lines.New(s), lines.New(s)
	a.Apply(api.Edit{At: 1, Del: "\n"})
	a.Apply(api.Edit{At: 4, Ins: "\n\n"})
	isOf(t, "b", b, s)
	isOf(t, "a", a, "ab\nc\n\n")
}

// P1: any edit at all.
func TestAnyEdit(t *testing.T) {
	for _, s := range []string{"", "\n", "a\nb"} {
		for _, at := range far {
			for _, del := range []string{"", "\n", "a\nb", "\xff\x00"} {
				x := lines.New(s)
				if bad := x.Apply(api.Edit{At: at, Del: del, Ins: "x\ny"}); bad != api.ErrRange {
					t.Errorf("%q, %d, %q: %d", s, at, del, bad)
				}
				isOf(t, "refused", x, s)
			}
		}
	}
}
