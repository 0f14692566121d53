package edit_test

import (
	"fmt"
	"math"
	"slices"
	"strings"
	"testing"

	"quillwort/api"
	"quillwort/edit"
)

// texts are all texts of at most so many bytes, each of them one of letters.
func texts(letters string, most int) []string {
	all := []string{""}
	for from := 0; most > 0; most-- {
		to := len(all)
		for ; from < to; from++ {
			for i := range len(letters) {
				all = append(all, all[from]+letters[i:i+1])
			}
		}
	}
	return all
}

// edits are all edits that go with a text, by which one of ins comes.
func edits(s string, ins []string) []api.Edit {
	var all []api.Edit
	for from := 0; from <= len(s); from++ {
		for to := from; to <= len(s); to++ {
			for _, i := range ins {
				all = append(all, api.Edit{At: from, Del: s[from:to], Ins: i})
			}
		}
	}
	return all
}

// full is a text of so many bytes, not all of them the same.
func full(n int) string {
	return strings.Repeat("abcdefg\n", n/8+1)[:n]
}

func short(s string) string {
	if len(s) > 40 {
		return s[:40] + ".."
	}
	return s
}

func tell(e api.Edit) string {
	return fmt.Sprintf("{%d %q %q}", e.At, short(e.Del), short(e.Ins))
}

func do(t *testing.T, s string, e api.Edit) string {
	t.Helper()
	then, bad := edit.Do(s, e)
	if bad != api.OK {
		t.Fatalf("Do(%q, %s): error %d", short(s), tell(e), bad)
	}
	return then
}

// P1.1: which edits go with a text, and the text then.
func TestDo(t *testing.T) {
	whole := full(api.MaxText)
	for _, c := range []struct {
		s    string
		e    api.Edit
		then string
		bad  api.Errno
	}{
		{"hello", api.Edit{At: 1, Del: "el", Ins: "XYZ"}, "hXYZlo", api.OK},
		{"hello", api.Edit{At: 0, Del: "hello", Ins: ""}, "", api.OK},
		{"hello", api.Edit{At: 0, Del: "", Ins: "o, "}, "o, hello", api.OK},
		{"hello", api.Edit{At: 5, Del: "", Ins: "!"}, "hello!", api.OK},
		{"hello", api.Edit{At: 2, Del: "", Ins: ""}, "hello", api.OK},
		{"", api.Edit{}, "", api.OK},
		{"", api.Edit{Ins: "\x00\xff\xc3"}, "\x00\xff\xc3", api.OK},
		{"é\x00\xffz", api.Edit{At: 1, Del: "\xa9\x00", Ins: "\xfe"}, "\xc3\xfe\xffz", api.OK},

		{"hello", api.Edit{At: -1}, "", api.ErrRange},
		{"hello", api.Edit{At: -1, Del: "h", Ins: "x"}, "", api.ErrRange},
		{"hello", api.Edit{At: math.MinInt}, "", api.ErrRange},
		{"hello", api.Edit{At: 6}, "", api.ErrRange},
		{"hello", api.Edit{At: math.MaxInt}, "", api.ErrRange},
		{"hello", api.Edit{At: math.MaxInt, Del: "o"}, "", api.ErrRange},
		{"hello", api.Edit{At: 0, Del: "x"}, "", api.ErrRange},
		{"hello", api.Edit{At: 0, Del: "el"}, "", api.ErrRange}, // it stands elsewhere
		{"hello", api.Edit{At: 4, Del: "ox"}, "", api.ErrRange},
		{"hello", api.Edit{At: 5, Del: "o"}, "", api.ErrRange},
		{"hello", api.Edit{At: 0, Del: "hello!"}, "", api.ErrRange},
		{"", api.Edit{Del: "\x00"}, "", api.ErrRange},

		{"", api.Edit{Ins: whole}, whole, api.OK},
		{"", api.Edit{Ins: whole + "x"}, "", api.ErrLarge},
		{whole[:api.MaxText-1], api.Edit{At: api.MaxText - 1, Ins: whole[api.MaxText-1:]}, whole, api.OK},
		{whole, api.Edit{At: api.MaxText}, whole, api.OK},
		{whole, api.Edit{At: api.MaxText, Ins: "x"}, "", api.ErrLarge},
		{whole, api.Edit{At: 0, Del: "ab", Ins: "xy"}, "xy" + whole[2:], api.OK},
		{whole, api.Edit{At: 0, Del: "ab", Ins: "xyz"}, "", api.ErrLarge},
		{whole + "x", api.Edit{At: api.MaxText, Del: "x"}, whole, api.OK},
		{whole + "x", api.Edit{}, "", api.ErrLarge},
		{whole, api.Edit{At: -1, Ins: "x"}, "", api.ErrRange}, // ErrRange is looked for first
		{whole, api.Edit{At: 0, Del: "b", Ins: "xy"}, "", api.ErrRange},
		{"a", api.Edit{At: 2, Ins: whole}, "", api.ErrRange},
	} {
		then, bad := edit.Do(c.s, c.e)
		if then != c.then || bad != c.bad {
			t.Errorf("Do(%q, %s): %q %d, not %q %d", short(c.s), tell(c.e), short(then), bad, short(c.then), c.bad)
		}
		if edit.Goes(c.s, c.e) != (c.bad == api.OK) {
			t.Errorf("Goes(%q, %s)", short(c.s), tell(c.e))
		}
	}
}

// P1.1: an inverse has Del and Ins changed, whatever they are.
func TestInverse(t *testing.T) {
	for _, e := range []api.Edit{{}, {At: 3, Del: "a", Ins: "bc"}, {At: -1, Ins: "x"}, {At: math.MinInt, Del: "x"}, {At: math.MaxInt, Del: "\x00", Ins: "\xff"}} {
		if back := edit.Inverse(e); back != (api.Edit{At: e.At, Del: e.Ins, Ins: e.Del}) {
			t.Errorf("Inverse(%s): %s", tell(e), tell(back))
		}
	}
}

// P1.1: the edit of a part of a text.
func TestMake(t *testing.T) {
	whole := full(api.MaxText)
	for _, c := range []struct {
		s        string
		from, to int
		ins      string
		e        api.Edit
		bad      api.Errno
	}{
		{"hello", 1, 3, "XYZ", api.Edit{At: 1, Del: "el", Ins: "XYZ"}, api.OK},
		{"hello", 0, 5, "", api.Edit{At: 0, Del: "hello"}, api.OK},
		{"hello", 5, 5, "!", api.Edit{At: 5, Ins: "!"}, api.OK},
		{"hello", 2, 2, "", api.Edit{At: 2}, api.OK},
		{"hello", 0, 0, "\xff\x00", api.Edit{Ins: "\xff\x00"}, api.OK},
		{"", 0, 0, "", api.Edit{}, api.OK},

		{"hello", -1, 3, "x", api.Edit{}, api.ErrRange},
		{"hello", -2, -1, "x", api.Edit{}, api.ErrRange},
		{"hello", 3, 2, "x", api.Edit{}, api.ErrRange},
		{"hello", 3, 6, "x", api.Edit{}, api.ErrRange},
		{"hello", 6, 6, "x", api.Edit{}, api.ErrRange},
		{"hello", 6, 5, "x", api.Edit{}, api.ErrRange},
		{"hello", math.MinInt, math.MaxInt, "x", api.Edit{}, api.ErrRange},
		{"hello", math.MaxInt, math.MinInt, "x", api.Edit{}, api.ErrRange},
		{"hello", 0, math.MaxInt, "x", api.Edit{}, api.ErrRange},
		{"hello", 0, math.MinInt, "x", api.Edit{}, api.ErrRange},
		{"", 0, 1, "", api.Edit{}, api.ErrRange},

		{"hello", 5, 5, whole[5:], api.Edit{At: 5, Ins: whole[5:]}, api.OK},
		{"hello", 5, 5, whole[4:], api.Edit{}, api.ErrLarge},
		{"hello", 4, 5, whole[4:], api.Edit{At: 4, Del: "o", Ins: whole[4:]}, api.OK},
		{whole, 8, 9, "x", api.Edit{At: 8, Del: "a", Ins: "x"}, api.OK},
		{whole, 8, 9, "xy", api.Edit{}, api.ErrLarge},
		{whole + "x", 0, 1, "", api.Edit{Del: "a"}, api.OK},
		{whole + "x", 0, 0, "", api.Edit{}, api.ErrLarge},
		{"hello", 4, 3, whole, api.Edit{}, api.ErrRange}, // ErrRange is looked for first
		{whole, -1, 0, "x", api.Edit{}, api.ErrRange},
	} {
		e, bad := edit.Make(c.s, c.from, c.to, c.ins)
		if e != c.e || bad != c.bad {
			t.Errorf("Make(%q, %d, %d, %q): %s %d, not %s %d", short(c.s), c.from, c.to, short(c.ins), tell(e), bad, tell(c.e), c.bad)
		}
	}
}

// P1.1: what Make answers goes with the text, and does what it is made for.
func TestMakeDoes(t *testing.T) {
	s := "a\x00bc\xff"
	for from := 0; from <= len(s); from++ {
		for to := from; to <= len(s); to++ {
			e, bad := edit.Make(s, from, to, "+b")
			if then := do(t, s, e); bad != api.OK || then != s[:from]+"+b"+s[to:] {
				t.Errorf("Make(%q, %d, %d): %s, by which it is %q", s, from, to, tell(e), then)
			}
		}
	}
}

// P1.2: a diff leaves out what is alike at the beginnings first, then at the ends.
func TestDiff(t *testing.T) {
	big := full(2*api.MaxText + 3)
	for _, c := range []struct {
		a, b string
		e    api.Edit
	}{
		{"abc", "axc", api.Edit{At: 1, Del: "b", Ins: "x"}},
		{"same", "same", api.Edit{At: 4}},
		{"", "", api.Edit{}},
		{"", "new", api.Edit{Ins: "new"}},
		{"old", "", api.Edit{Del: "old"}},
		{"abc", "xyz", api.Edit{Del: "abc", Ins: "xyz"}},
		{"aaa", "aaaa", api.Edit{At: 3, Ins: "a"}},
		{"aaaa", "aaa", api.Edit{At: 3, Del: "a"}},
		{"abab", "ab", api.Edit{At: 2, Del: "ab"}},
		{"ab", "abab", api.Edit{At: 2, Ins: "ab"}},
		{"aba", "aa", api.Edit{At: 1, Del: "b"}},
		{"ab", "cab", api.Edit{Ins: "c"}},
		{"axbxc", "aybyc", api.Edit{At: 1, Del: "xbx", Ins: "yby"}},
		{"é", "è", api.Edit{At: 1, Del: "\xa9", Ins: "\xa8"}}, // bytes are held against each other
		{"\x00\xff", "\x00\x00\xff", api.Edit{At: 1, Ins: "\x00"}},
		{big, big, api.Edit{At: len(big)}},
		{big, "", api.Edit{Del: big}},
		{big + "x" + big, big + "yz" + big, api.Edit{At: len(big), Del: "x", Ins: "yz"}},
	} {
		if e := edit.Diff(c.a, c.b); e != c.e {
			t.Errorf("Diff(%q, %q): %s, not %s", short(c.a), short(c.b), tell(e), tell(c.e))
		}
	}
}

// P1.2 and P1.4, of all pairs of small texts: both rows of what is alike can't be longer, and the diff brings b of a.
func TestDiffOfAll(t *testing.T) {
	all := texts("ab", 6)
	for _, a := range all {
		for _, b := range all {
			e := edit.Diff(a, b)
			if !strings.HasPrefix(a[min(e.At, len(a)):], e.Del) {
				t.Fatalf("Diff(%q, %q): %s", a, b, tell(e))
			}
			if then := do(t, a, e); then != b {
				t.Fatalf("Diff(%q, %q): %s, which brings %q", a, b, tell(e), then)
			}
			longer := e.At < min(len(a), len(b)) && a[e.At] == b[e.At]
			if longer || e.Del != "" && e.Ins != "" && e.Del[len(e.Del)-1] == e.Ins[len(e.Ins)-1] {
				t.Fatalf("Diff(%q, %q): %s, but more is alike", a, b, tell(e))
			}
		}
	}
}

// P1.2: where places are behind an edit, its edges among them.
func TestMove(t *testing.T) {
	change := api.Edit{At: 2, Del: "cde", Ins: "X"}
	longer := api.Edit{At: 1, Del: "el", Ins: "XYZ"}
	insert := api.Edit{At: 3, Ins: "XY"}
	remove := api.Edit{At: 0, Del: "abc"}
	for _, c := range []struct {
		e                api.Edit
		at, stays, stuck int
	}{
		{change, 0, 0, 0}, {change, 1, 1, 1}, {change, 2, 2, 3}, {change, 3, 2, 3}, {change, 5, 2, 3}, {change, 6, 4, 4}, {change, 9, 7, 7},
		{longer, 0, 0, 0}, {longer, 1, 1, 4}, {longer, 2, 1, 4}, {longer, 3, 1, 4}, {longer, 4, 5, 5},
		{insert, 2, 2, 2}, {insert, 3, 3, 5}, {insert, 4, 6, 6},
		{remove, 0, 0, 0}, {remove, 3, 0, 0}, {remove, 4, 1, 1},
		{api.Edit{At: 4}, 3, 3, 3}, {api.Edit{At: 4}, 4, 4, 4}, {api.Edit{At: 4}, 5, 5, 5},
		{insert, math.MinInt, math.MinInt, math.MinInt},
		{insert, -1, -1, -1},
		{remove, math.MaxInt, math.MaxInt - 3, math.MaxInt - 3},
		{api.Edit{At: math.MaxInt - 1, Del: "abcd", Ins: "x"}, math.MaxInt, math.MaxInt - 1, math.MaxInt},
		{api.Edit{At: math.MaxInt, Del: "abcd"}, math.MinInt, math.MinInt, math.MinInt},
		{api.Edit{At: math.MinInt, Del: "abcd", Ins: "x"}, math.MinInt + 4, math.MinInt, math.MinInt + 1},
		{api.Edit{At: math.MinInt, Del: "abcd", Ins: "x"}, math.MinInt + 5, math.MinInt + 2, math.MinInt + 2},
		{api.Edit{At: math.MinInt, Del: "abcd", Ins: "x"}, math.MaxInt, math.MaxInt - 3, math.MaxInt - 3},
	} {
		if at := edit.Move(c.e, c.at, false); at != c.stays {
			t.Errorf("Move(%s, %d, false): %d, not %d", tell(c.e), c.at, at, c.stays)
		}
		if at := edit.Move(c.e, c.at, true); at != c.stuck {
			t.Errorf("Move(%s, %d, true): %d, not %d", tell(c.e), c.at, at, c.stuck)
		}
	}
}

// P1.2: what stands ahead of a place that an edit leaves alone, and behind it, stands there afterwards.
func TestMoveGoesWithItsBytes(t *testing.T) {
	s := "abcdefg"
	for _, e := range edits(s, []string{"", "X", "XYZ"}) {
		then := do(t, s, e)
		for at := 0; at <= len(s); at++ {
			stays, stuck := edit.Move(e, at, false), edit.Move(e, at, true)
			switch {
			case at < e.At:
				if stays != stuck || then[stays] != s[at] {
					t.Errorf("Move(%s, %d): %d %d", tell(e), at, stays, stuck)
				}
			case at > e.At+len(e.Del):
				if stays != stuck || then[stays-1] != s[at-1] {
					t.Errorf("Move(%s, %d): %d %d", tell(e), at, stays, stuck)
				}
			case then[:stays] != s[:e.At] || then[stuck:] != s[e.At+len(e.Del):]:
				t.Errorf("Move(%s, %d): %d %d", tell(e), at, stays, stuck)
			}
		}
	}
}

// P1.3: one edit for two.
func TestJoin(t *testing.T) {
	for _, c := range []struct{ a, b, one api.Edit }{
		{api.Edit{At: 2, Ins: "ab"}, api.Edit{At: 4, Ins: "c"}, api.Edit{At: 2, Ins: "abc"}}, // b touches the end
		{api.Edit{At: 2, Ins: "ab"}, api.Edit{At: 2, Ins: "c"}, api.Edit{At: 2, Ins: "cab"}}, // and the beginning
		{api.Edit{At: 2, Ins: "ab"}, api.Edit{At: 3, Ins: "c"}, api.Edit{At: 2, Ins: "acb"}}, // it is within
		{api.Edit{At: 2, Ins: "abc"}, api.Edit{At: 3, Del: "b"}, api.Edit{At: 2, Ins: "ac"}},
		{api.Edit{At: 2, Ins: "ab"}, api.Edit{At: 1, Del: "xaby"}, api.Edit{At: 1, Del: "xy"}},                   // it covers
		{api.Edit{At: 2, Ins: "ab"}, api.Edit{At: 2, Del: "ab"}, api.Edit{At: 2}},                                // just it
		{api.Edit{At: 2, Ins: "ab"}, api.Edit{At: 1, Del: "x", Ins: "z"}, api.Edit{At: 1, Del: "x", Ins: "zab"}}, // b ends at the beginning
		{api.Edit{At: 2, Ins: "ab"}, api.Edit{At: 4, Del: "y", Ins: "z"}, api.Edit{At: 2, Del: "y", Ins: "abz"}}, // it begins at the end
		{api.Edit{At: 2, Ins: "ab"}, api.Edit{At: 0, Del: "xya"}, api.Edit{At: 0, Del: "xy", Ins: "b"}},          // it ends within
		{api.Edit{At: 2, Ins: "ab"}, api.Edit{At: 3, Del: "bx", Ins: "c"}, api.Edit{At: 2, Del: "x", Ins: "ac"}}, // it begins within
		{api.Edit{At: 2, Del: "xy"}, api.Edit{At: 2, Del: "z"}, api.Edit{At: 2, Del: "xyz"}},                     // a brought nothing
		{api.Edit{At: 2, Del: "xy"}, api.Edit{At: 1, Del: "z"}, api.Edit{At: 1, Del: "zxy"}},
		{api.Edit{At: 2, Del: "xy"}, api.Edit{At: 1, Del: "zu", Ins: "v"}, api.Edit{At: 1, Del: "zxyu", Ins: "v"}},
		{api.Edit{At: 2, Del: "xy", Ins: "v"}, api.Edit{At: 2, Del: "v", Ins: "w"}, api.Edit{At: 2, Del: "xy", Ins: "w"}},
		{api.Edit{}, api.Edit{}, api.Edit{}},
		{api.Edit{At: api.MaxText}, api.Edit{At: api.MaxText}, api.Edit{At: api.MaxText}},
		{api.Edit{At: 0, Del: "\xff"}, api.Edit{At: 0, Del: "\x00", Ins: "\xc3"}, api.Edit{At: 0, Del: "\xff\x00", Ins: "\xc3"}},
	} {
		if one, ok := edit.Join(c.a, c.b); !ok || one != c.one {
			t.Errorf("Join(%s, %s): %s %v, not %s", tell(c.a), tell(c.b), tell(one), ok, tell(c.one))
		}
	}
}

// P1.3: edits that are apart, and places that no text has.
func TestJoinNone(t *testing.T) {
	for _, c := range [][2]api.Edit{
		{{At: 2, Ins: "ab"}, {At: 5, Ins: "c"}},
		{{At: 2, Ins: "ab"}, {At: 1, Ins: "c"}},
		{{At: 2, Ins: "ab"}, {At: 0, Del: "x"}},
		{{At: 2, Del: "ab"}, {At: 3}},
		{{At: 2, Del: "ab"}, {At: 1}},
		{{At: 0}, {At: api.MaxText}},
		{{At: -1}, {At: -1}},
		{{At: -1, Ins: "ab"}, {At: 0}},
		{{At: 0}, {At: -1, Del: "ab"}},
		{{At: api.MaxText + 1}, {At: api.MaxText + 1}},
		{{At: api.MaxText, Ins: "ab"}, {At: api.MaxText + 1}},
		{{At: api.MaxText + 1}, {At: api.MaxText, Del: "a"}},
		{{At: math.MinInt}, {At: math.MinInt}},
		{{At: math.MaxInt, Ins: "ab"}, {At: math.MaxInt, Del: "ab"}},
		{{At: math.MinInt}, {At: math.MaxInt}},
		{{At: math.MaxInt}, {At: math.MinInt, Del: "a"}},
	} {
		if one, ok := edit.Join(c[0], c[1]); ok || one != (api.Edit{}) {
			t.Errorf("Join(%s, %s): %s %v", tell(c[0]), tell(c[1]), tell(one), ok)
		}
	}
}

// P1.3, of all small edits of small texts: they are joined just where they touch, and do the same then.
func TestJoinOfAll(t *testing.T) {
	for _, s := range []string{"", "u", "uv", "uvw", "aba"} {
		for _, a := range edits(s, []string{"", "a", "ab"}) {
			then := do(t, s, a)
			for _, b := range edits(then, []string{"", "b", "xy"}) {
				from, to := a.At, a.At+len(a.Ins)
				end := b.At + len(b.Del)
				begins, ends, covers := from <= b.At && b.At <= to, from <= end && end <= to, b.At <= from && to <= end
				one, ok := edit.Join(a, b)
				if ok != (begins || ends || covers) {
					t.Fatalf("%q: Join(%s, %s): %v", s, tell(a), tell(b), ok)
				}
				if ok && do(t, s, one) != do(t, then, b) {
					t.Fatalf("%q: Join(%s, %s): %s", s, tell(a), tell(b), tell(one))
				}
			}
		}
	}
}

// P1.3: all edits one behind the other, or the first one that doesn't go.
func TestAll(t *testing.T) {
	whole := full(api.MaxText)
	for _, c := range []struct {
		s    string
		l    []api.Edit
		then string
		n    int
		bad  api.Errno
	}{
		{"abc", nil, "abc", 0, api.OK},
		{"", []api.Edit{}, "", 0, api.OK},
		{"abc", []api.Edit{{}}, "abc", 1, api.OK},
		{"abc", []api.Edit{{At: 3, Ins: "d"}, {At: 0, Del: "ab"}, {At: 2, Ins: "e"}}, "cde", 3, api.OK},
		{"abc", []api.Edit{{At: 0, Del: "abc"}, {At: 0, Del: ""}, {At: 0, Ins: "\xff"}}, "\xff", 3, api.OK},
		{"abc", []api.Edit{{At: 9}}, "", 0, api.ErrRange},
		{"abc", []api.Edit{{At: -1}, {At: 0, Ins: whole}}, "", 0, api.ErrRange}, // the first one at fault
		{"abc", []api.Edit{{At: 0, Ins: whole}, {At: -1}}, "", 0, api.ErrLarge},
		{"abc", []api.Edit{{At: 0, Del: "a"}, {At: 0, Del: "a"}}, "", 1, api.ErrRange}, // it has gone by then
		{"abc", []api.Edit{{At: 0, Del: "a"}, {At: 0, Del: "b"}, {At: math.MaxInt}}, "", 2, api.ErrRange},
		{"abc", []api.Edit{{At: 3, Ins: whole[3:]}, {At: 0, Ins: "x"}}, "", 1, api.ErrLarge},
		{"abc", []api.Edit{{At: 3, Ins: whole[3:]}, {At: 0, Del: "a"}, {At: 0, Ins: "x"}}, "xbc" + whole[3:], 3, api.OK},
	} {
		kept := slices.Clone(c.l)
		then, n, bad := edit.All(c.s, c.l...)
		if then != c.then || n != c.n || bad != c.bad {
			t.Errorf("All(%q, %d edits): %q %d %d, not %q %d %d", short(c.s), len(c.l), short(then), n, bad, short(c.then), c.n, c.bad)
		}
		if !slices.Equal(kept, c.l) {
			t.Errorf("All(%q, %d edits) changed them", short(c.s), len(c.l))
		}
	}
}

// P1.3 and R4: what lies behind the list's length in its memory isn't read.
func TestAllStaysWithinItsList(t *testing.T) {
	l := []api.Edit{{Ins: "a"}, {At: 9}}
	if then, n, bad := edit.All("", l[:1]...); then != "a" || n != 1 || bad != api.OK {
		t.Errorf("%q %d %d", then, n, bad)
	}
}

// P1.4: an edit and its inverse bring the text again.
func TestInverseBringsItAgain(t *testing.T) {
	for _, s := range append(texts("ab", 4), "\x00\xff\xc3") {
		for _, e := range edits(s, []string{"", "a", "ba"}) {
			if back := do(t, do(t, s, e), edit.Inverse(e)); back != s {
				t.Fatalf("%q: %s and its inverse bring %q", s, tell(e), back)
			}
		}
	}
	whole := full(api.MaxText)
	for _, e := range []api.Edit{{Del: whole}, {At: 8, Del: "ab"}, {At: api.MaxText}, {At: 0, Del: "ab", Ins: "xy"}} {
		if back := do(t, do(t, whole, e), edit.Inverse(e)); back != whole {
			t.Errorf("%s and its inverse don't bring the text again", tell(e))
		}
	}
	if back := do(t, do(t, "", api.Edit{Ins: whole}), edit.Inverse(api.Edit{Ins: whole})); back != "" {
		t.Error("not the empty text again")
	}
}

// P1: every call ends, and none panics, at all arguments.
func TestAnyArguments(t *testing.T) {
	places := []int{math.MinInt, math.MinInt + 1, -api.MaxText, -2, -1, 0, 1, 2, 3, 4, api.MaxText - 1, api.MaxText, api.MaxText + 1, math.MaxInt - 1, math.MaxInt}
	strs := []string{"", "a", "ab", "ba\x00", "\xff\xfe\x80"}
	var all []api.Edit
	for _, at := range places {
		for _, del := range strs {
			for _, ins := range strs {
				all = append(all, api.Edit{At: at, Del: del, Ins: ins})
			}
		}
	}
	for _, e := range all {
		for _, s := range strs {
			then, bad := edit.Do(s, e)
			if edit.Goes(s, e) != (bad == api.OK) || bad != api.OK && then != "" {
				t.Fatalf("Do(%q, %s): %q %d", s, tell(e), then, bad)
			}
			if bad == api.OK && do(t, then, edit.Inverse(e)) != s {
				t.Fatalf("Do(%q, %s): %q", s, tell(e), then)
			}
		}
		for _, at := range places {
			edit.Move(e, at, false)
			edit.Move(e, at, true)
		}
		for _, b := range all {
			one, ok := edit.Join(e, b)
			if !ok && one != (api.Edit{}) {
				t.Fatalf("Join(%s, %s): %s", tell(e), tell(b), tell(one))
			}
		}
	}
	for _, from := range places {
		for _, to := range places {
			for _, s := range strs {
				e, bad := edit.Make(s, from, to, "x")
				if bad != api.OK && e != (api.Edit{}) || bad == api.OK && !edit.Goes(s, e) {
					t.Fatalf("Make(%q, %d, %d): %s %d", s, from, to, tell(e), bad)
				}
			}
		}
	}
	if _, n, bad := edit.All("a", all...); n != 0 || bad != api.ErrRange {
		t.Errorf("All: %d %d", n, bad)
	}
}
