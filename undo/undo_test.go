package undo_test

import (
	"math"
	"slices"
	"strconv"
	"strings"
	"testing"

	"quillwort/api"
	"quillwort/edit"
	"quillwort/undo"
)

// typed is a step by which text comes at a place, with the cursor there ahead of it, and behind the text then.
func typed(at int, text string) api.Step {
	return api.Step{Edit: api.Edit{At: at, Ins: text}, Ahead: at, Behind: at + len(text)}
}

// gone is a step by which text goes from a place, with the cursor behind it ahead of that.
func gone(at int, text string) api.Step {
	return api.Step{Edit: api.Edit{At: at, Del: text}, Ahead: at + len(text), Behind: at}
}

// numbered are so many steps, from a number on, none of which joins another one.
func numbered(from, n int) []api.Step {
	var all []api.Step
	for i := range n {
		all = append(all, typed(2*(from+i), "x"))
	}
	return all
}

// journal is one that keeps most steps, and into which steps were pushed, none joined.
func journal(t *testing.T, most int, steps ...api.Step) *undo.Journal {
	t.Helper()
	j := undo.New(most)
	if j == nil {
		t.Fatalf("New(%d) is nil", most)
	}
	for _, s := range steps {
		j.Push(s, false)
	}
	return j
}

// holds checks what a journal tells of itself.
func holds(t *testing.T, what string, j *undo.Journal, done, undone []api.Step) {
	t.Helper()
	if got := j.Done(); !slices.Equal(got, done) {
		t.Errorf("%s: done %v, not %v", what, got, done)
	}
	if got := j.Undone(); !slices.Equal(got, undone) {
		t.Errorf("%s: undone %v, not %v", what, got, undone)
	}
}

// told checks what Undo or Redo told.
func told(t *testing.T, what string, ask func() (api.Step, bool), want api.Step, there bool) {
	t.Helper()
	if s, ok := ask(); s != want || ok != there {
		t.Errorf("%s: %v %v, not %v %v", what, s, ok, want, there)
	}
}

// P2.1: most from 1 to 100,000, and nothing else.
func TestNew(t *testing.T) {
	for _, most := range []int{1, 2, 1000, 99_999, 100_000} {
		j := undo.New(most)
		if j == nil {
			t.Errorf("New(%d) is nil", most)
			continue
		}
		holds(t, "new", j, nil, nil)
		told(t, "Undo of a new one", j.Undo, api.Step{}, false)
		told(t, "Redo of a new one", j.Redo, api.Step{}, false)
	}
	for _, most := range []int{0, -1, -100_000, 100_001, math.MinInt, math.MaxInt} {
		if undo.New(most) != nil {
			t.Errorf("New(%d) isn't nil", most)
		}
	}
}

// P2.1: a journal keeps most steps, the last ones.
func TestMost(t *testing.T) {
	for _, most := range []int{1, 2, 3, 7, 100} {
		j := undo.New(most)
		for n := range 3*most + 2 {
			holds(t, "most "+strconv.Itoa(most), j, numbered(max(n-most, 0), min(n, most)), nil)
			j.Push(typed(2*n, "x"), false)
		}
	}
}

// P2.1: the greatest journal, full, and one step more.
func TestMostOfAll(t *testing.T) {
	const most = 100_000
	j := undo.New(most)
	for n := range most {
		j.Push(typed(2*n, "x"), false)
	}
	if d := j.Done(); len(d) != most || d[0] != typed(0, "x") || d[most-1] != typed(2*most-2, "x") {
		t.Errorf("full: %d steps", len(d))
	}
	j.Push(typed(2*most, "x"), false)
	if d := j.Done(); len(d) != most || d[0] != typed(2, "x") || d[most-1] != typed(2*most, "x") {
		t.Errorf("one more: %d steps", len(d))
	}
	for range most {
		j.Undo()
	}
	told(t, "undone so often", j.Undo, api.Step{}, false)
	told(t, "the first one", j.Redo, typed(2, "x"), true)
}

// P2.1: one that keeps just one step undoes and redoes that, and no other.
func TestMostOne(t *testing.T) {
	j := journal(t, 1, typed(0, "a"), typed(9, "b"))
	holds(t, "two pushed", j, []api.Step{typed(9, "b")}, nil)
	told(t, "Undo", j.Undo, typed(9, "b"), true)
	told(t, "Undo again", j.Undo, api.Step{}, false)
	holds(t, "undone", j, nil, []api.Step{typed(9, "b")})
	j.Push(typed(3, "c"), true)
	holds(t, "behind the undo", j, []api.Step{typed(3, "c")}, nil)
	j.Push(typed(4, "d"), true)
	holds(t, "joined", j, []api.Step{typed(3, "cd")}, nil)
	j.Push(typed(4, "d"), false)
	holds(t, "not joined", j, []api.Step{typed(4, "d")}, nil)
}

// P2.1: a full journal whose steps are undone takes new ones without dropping the first.
func TestFullBehindUndo(t *testing.T) {
	j := journal(t, 3, numbered(0, 3)...)
	j.Undo()
	j.Push(typed(80, "x"), false)
	holds(t, "one for one", j, append(numbered(0, 2), typed(80, "x")), nil)
	j.Undo()
	j.Undo()
	j.Push(typed(90, "x"), false)
	holds(t, "one for two", j, append(numbered(0, 1), typed(90, "x")), nil)
}

// P2.1: which steps become one, and what that is.
func TestJoin(t *testing.T) {
	for _, c := range []struct {
		what string
		a, b api.Step
		join bool
		then []api.Step
	}{
		{"typed on", typed(2, "ab"), typed(4, "c"), true, []api.Step{{Edit: api.Edit{At: 2, Ins: "abc"}, Ahead: 2, Behind: 5}}},
		{"typed on, not to be joined", typed(2, "ab"), typed(4, "c"), false, []api.Step{typed(2, "ab"), typed(4, "c")}},
		{"typed ahead", typed(2, "ab"), typed(2, "c"), true, []api.Step{{Edit: api.Edit{At: 2, Ins: "cab"}, Ahead: 2, Behind: 3}}},
		{"typed apart", typed(2, "ab"), typed(5, "c"), true, []api.Step{typed(2, "ab"), typed(5, "c")}},
		{"typed ahead, apart", typed(2, "ab"), typed(1, "c"), true, []api.Step{typed(2, "ab"), typed(1, "c")}},
		{"typed and gone", typed(2, "ab"), gone(2, "ab"), true, []api.Step{{Edit: api.Edit{At: 2}, Ahead: 2, Behind: 2}}},
		{"gone backward", gone(5, "c"), gone(4, "b"), true, []api.Step{{Edit: api.Edit{At: 4, Del: "bc"}, Ahead: 6, Behind: 4}}},
		{"cursors of any kind", api.Step{Edit: api.Edit{At: 0, Ins: "a"}, Ahead: -7, Behind: 70}, api.Step{Edit: api.Edit{At: 1, Ins: "b"}, Ahead: 80, Behind: math.MaxInt}, true,
			[]api.Step{{Edit: api.Edit{At: 0, Ins: "ab"}, Ahead: -7, Behind: math.MaxInt}}},
		{"places outside", typed(api.MaxText+1, "a"), typed(api.MaxText+2, "b"), true, []api.Step{typed(api.MaxText+1, "a"), typed(api.MaxText+2, "b")}},
	} {
		j := undo.New(10)
		j.Push(typed(900, "first"), true)
		j.Push(c.a, false)
		j.Push(c.b, c.join)
		holds(t, c.what, j, append([]api.Step{typed(900, "first")}, c.then...), nil)
	}
}

// P2.1: a step is joined with the last one that was done, not with one that was undone; and what was undone is dropped then, too.
func TestJoinBehindUndo(t *testing.T) {
	j := journal(t, 10, typed(0, "a"), typed(20, "b"), typed(40, "c"))
	j.Undo()
	j.Undo()
	j.Push(typed(21, "d"), true)
	holds(t, "apart from the last one that was done", j, []api.Step{typed(0, "a"), typed(21, "d")}, nil)

	j = journal(t, 10, typed(0, "a"), typed(20, "b"), typed(40, "c"))
	j.Undo()
	j.Undo()
	j.Push(typed(1, "e"), true)
	holds(t, "on behind the last one that was done", j, []api.Step{typed(0, "ae")}, nil)
	told(t, "Redo", j.Redo, api.Step{}, false)

	j.Undo()
	j.Push(typed(2, "f"), true)
	holds(t, "nothing is done", j, []api.Step{typed(2, "f")}, nil)
}

// P2.1: a full journal drops nothing for a step that is joined.
func TestJoinFull(t *testing.T) {
	j := journal(t, 2, typed(0, "a"), typed(20, "b"))
	j.Push(typed(21, "c"), true)
	holds(t, "joined", j, []api.Step{typed(0, "a"), typed(20, "bc")}, nil)
	j.Push(typed(50, "d"), true)
	holds(t, "apart", j, []api.Step{typed(20, "bc"), typed(50, "d")}, nil)
}

// P2.2: what Undo and Redo tell, and in which order the steps are listed.
func TestUndo(t *testing.T) {
	steps := numbered(0, 4)
	j := journal(t, 10, steps...)
	told(t, "nothing is undone", j.Redo, api.Step{}, false)
	for n := len(steps); n > 0; n-- {
		holds(t, "undone from the last one on", j, steps[:n], steps[n:])
		told(t, "Undo", j.Undo, steps[n-1], true)
	}
	told(t, "all are undone", j.Undo, api.Step{}, false)
	for n := range steps {
		holds(t, "redone from the first one on", j, steps[:n], steps[n:])
		told(t, "Redo", j.Redo, steps[n], true)
	}
	told(t, "all are redone", j.Redo, api.Step{}, false)
	holds(t, "at the end", j, steps, nil)
}

// P2.4: a push behind an undo drops what Redo would tell.
func TestPushBehindUndo(t *testing.T) {
	for _, join := range []bool{false, true} {
		j := journal(t, 10, numbered(0, 5)...)
		j.Undo()
		j.Undo()
		told(t, "Redo", j.Redo, numbered(3, 1)[0], true)
		j.Push(typed(70, "x"), join)
		holds(t, "pushed", j, append(numbered(0, 4), typed(70, "x")), nil)
		told(t, "Redo behind the push", j.Redo, api.Step{}, false)
		told(t, "Undo behind the push", j.Undo, typed(70, "x"), true)
		told(t, "Undo of those ahead", j.Undo, numbered(3, 1)[0], true)
	}
}

// P2.4: undone and redone step by step, a text goes through the same texts, joined or not.
func TestTexts(t *testing.T) {
	for _, join := range []bool{false, true} {
		j, s := undo.New(100), "hello"
		for i, e := range []api.Edit{{At: 5, Ins: " "}, {At: 6, Ins: "w"}, {At: 7, Ins: "o"}, {At: 0, Del: "hello", Ins: "the"}, {At: 3, Ins: "\x00\xff"}, {At: 2, Del: "e\x00\xff w"}, {At: 0, Del: "tho"}} {
			then, bad := edit.Do(s, e)
			if bad != api.OK {
				t.Fatalf("edit %d doesn't go: %d", i, bad)
			}
			j.Push(api.Step{Edit: e, Ahead: i, Behind: i + 1}, join)
			s = then
		}
		through := []string{s}
		for st, ok := j.Undo(); ok; st, ok = j.Undo() {
			s, _ = edit.Do(s, edit.Inverse(st.Edit))
			through = append(through, s)
		}
		if s != "hello" {
			t.Errorf("undone: %q", s)
		}
		for st, ok := j.Redo(); ok; st, ok = j.Redo() {
			through = through[:len(through)-1]
			s, _ = edit.Do(s, st.Edit)
			if s != through[len(through)-1] {
				t.Errorf("redone: %q, not %q", s, through[len(through)-1])
			}
		}
		if len(through) != 1 {
			t.Errorf("%d steps weren't redone", len(through)-1)
		}
	}
}

// plain is a journal as the chapter tells it, word by word.
type plain struct {
	most         int
	done, undone []api.Step // the one that was undone last is undone's last
}

func (p *plain) push(s api.Step, join bool) {
	p.undone = nil
	if n := len(p.done); join && n > 0 {
		if e, ok := edit.Join(p.done[n-1].Edit, s.Edit); ok {
			s = api.Step{Edit: e, Ahead: p.done[n-1].Ahead, Behind: s.Behind}
			p.done = p.done[:n-1]
		}
	}
	p.done = append(slices.Clone(p.done), s)
	p.done = p.done[max(len(p.done)-p.most, 0):]
}

func take(from, to *[]api.Step) (api.Step, bool) {
	n := len(*from)
	if n == 0 {
		return api.Step{}, false
	}
	s := (*from)[n-1]
	*from, *to = (*from)[:n-1], append(slices.Clone(*to), s)
	return s, true
}

// P2.1, P2.2, P2.4: all ways to call a journal, so and so often, of small ones.
func TestAllCalls(t *testing.T) {
	const calls, often = 6, 6
	all := 1
	for range often {
		all *= calls
	}
	for most := 1; most <= 4; most++ {
		for n := range all {
			play(t, most, n, calls, often)
			if t.Failed() {
				return // the rest would tell the same, thousands of times
			}
		}
	}
}

// play makes the calls that a number tells, digit by digit.
func play(t *testing.T, most, number, calls, often int) {
	t.Helper()
	j, p := undo.New(most), &plain{most: most}
	what := "most " + strconv.Itoa(most) + ", calls"
	for i := range often {
		call := number % calls
		number /= calls
		what += " " + strconv.Itoa(call)
		switch call {
		case 0:
			s, ok := take(&p.done, &p.undone)
			told(t, what, j.Undo, s, ok)
		case 1:
			s, ok := take(&p.undone, &p.done)
			told(t, what, j.Redo, s, ok)
		default:
			at := []int{10 * i, 7}[call%2] // apart from one another, or where the last one began, or began and ended
			s := api.Step{Edit: api.Edit{At: at, Ins: strconv.Itoa(i)}, Ahead: 100 + i, Behind: 200 + i}
			p.push(s, call > 3)
			j.Push(s, call > 3)
		}
		undone := slices.Clone(p.undone)
		slices.Reverse(undone)
		holds(t, what, j, p.done, undone)
	}
}

// R4: what was answered may be written over, grown and kept.
func TestAnswersOfJournal(t *testing.T) {
	steps := numbered(0, 6)
	j := journal(t, 10, steps...)
	j.Undo()
	j.Undo()
	done, undone := j.Done(), j.Undone()
	again, more := j.Done(), j.Undone()
	for i := range done {
		done[i] = typed(7, "over")
	}
	for i := range undone {
		undone[i] = typed(7, "over")
	}
	_ = append(done, typed(8, "over"), typed(9, "over"))
	_ = append(undone, typed(8, "over"))
	_ = append(done[:1], typed(8, "over"))
	holds(t, "written over", j, steps[:4], steps[4:])
	j.Push(typed(70, "x"), false)
	j.Push(typed(71, "y"), true)
	j.Undo()
	if !slices.Equal(again, steps[:4]) || !slices.Equal(more, steps[4:]) {
		t.Errorf("kept lists changed: %v %v", again, more)
	}
}

// R6: each journal is one of its own.
func TestJournalsApart(t *testing.T) {
	a, b := journal(t, 3, typed(0, "a")), journal(t, 3, typed(9, "b"))
	a.Undo()
	holds(t, "b", b, []api.Step{typed(9, "b")}, nil)
	holds(t, "a", a, nil, []api.Step{typed(0, "a")})
}

// P1: any step at all.
func TestAnyStep(t *testing.T) {
	ends := []int{math.MinInt, math.MinInt + 1, -1, 0, 1, api.MaxText, api.MaxText + 1, math.MaxInt - 1, math.MaxInt}
	last := undo.New(2)
	for _, at := range ends {
		for _, then := range ends {
			for _, join := range []bool{false, true} {
				j := undo.New(5)
				a := api.Step{Edit: api.Edit{At: at, Del: "\xff\x00", Ins: "ab"}, Ahead: at, Behind: then}
				b := api.Step{Edit: api.Edit{At: then, Del: "abc", Ins: "\x80"}, Ahead: then, Behind: at}
				for _, s := range []api.Step{a, b} {
					j.Push(s, join)
					last.Push(s, join)
				}
				if d := j.Done(); !join && !slices.Equal(d, []api.Step{a, b}) || len(d) == 0 || d[len(d)-1].Behind != at {
					t.Errorf("%d, %d, %v: %v", at, then, join, d)
				}
			}
		}
	}
}

// ring is one into which texts were killed, each for itself.
func ring(texts ...string) *undo.Ring {
	r := &undo.Ring{}
	for _, s := range texts {
		r.Kill(s, 0)
	}
	return r
}

// has checks what a ring tells of itself.
func has(t *testing.T, what string, r *undo.Ring, texts ...string) {
	t.Helper()
	if got := r.Texts(); !slices.Equal(got, texts) {
		t.Errorf("%s: %q, not %q", what, got, texts)
	}
	top, there := "", len(texts) > 0
	if there {
		top = texts[0]
	}
	if s, ok := r.Top(); s != top || ok != there {
		t.Errorf("%s: top %q %v, not %q %v", what, s, ok, top, there)
	}
}

// P2.3: what is killed comes to the top, or is put to the top's text.
func TestKill(t *testing.T) {
	for _, c := range []struct {
		what string
		r    *undo.Ring
		s    string
		more int
		then []string
	}{
		{"the first one", ring(), "a", 0, []string{"a"}},
		{"the first one, behind", ring(), "a", 1, []string{"a"}},
		{"the first one, ahead", ring(), "a", -1, []string{"a"}},
		{"one more", ring("a"), "b", 0, []string{"b", "a"}},
		{"behind the top", ring("x", "a"), "b", 1, []string{"ab", "x"}},
		{"ahead of the top", ring("x", "a"), "b", -1, []string{"ba", "x"}},
		{"far behind", ring("x", "a"), "b", math.MaxInt, []string{"ab", "x"}},
		{"far ahead", ring("x", "a"), "b", math.MinInt, []string{"ba", "x"}},
		{"the same again", ring("a"), "a", 0, []string{"a", "a"}},
		{"any bytes", ring("\x00\xff"), "\n\x80", 1, []string{"\x00\xff\n\x80"}},
		{"an empty one", ring("a"), "", 0, []string{"a"}},
		{"an empty one behind", ring("a"), "", 1, []string{"a"}},
		{"an empty one ahead", ring("a"), "", -1, []string{"a"}},
		{"an empty one first", ring(), "", 0, nil},
		{"an empty one first, behind", ring(), "", 1, nil},
		{"an empty one first, ahead", ring(), "", -1, nil},
	} {
		c.r.Kill(c.s, c.more)
		has(t, c.what, c.r, c.then...)
	}
}

// texts are so many, the last one first.
func texts(last, n int) []string {
	var all []string
	for i := range n {
		all = append(all, "t"+strconv.Itoa(last-i))
	}
	return all
}

// P2.3: of more than 20 texts those at the bottom are dropped.
func TestKillMany(t *testing.T) {
	r := &undo.Ring{}
	for n := range 50 {
		r.Kill("t"+strconv.Itoa(n), 0)
		has(t, "so many", r, texts(n, min(n+1, 20))...)
	}
	r.Kill("ahead ", -1)
	r.Kill(" behind", 1)
	r.Kill("", 0)
	has(t, "full", r, append([]string{"ahead t49 behind"}, texts(48, 19)...)...)
}

// P2.3: the top goes to the bottom.
func TestTurn(t *testing.T) {
	r := &undo.Ring{}
	has(t, "empty", r)
	if s, ok := r.Turn(); s != "" || ok {
		t.Errorf("empty: %q %v", s, ok)
	}
	has(t, "empty, turned", r)
	r.Kill("a", 0)
	if s, ok := r.Turn(); s != "a" || !ok {
		t.Errorf("one: %q %v", s, ok)
	}
	has(t, "one, turned", r, "a")
	r.Kill("b", 0)
	r.Kill("c", 0)
	for _, want := range [][]string{{"b", "a", "c"}, {"a", "c", "b"}, {"c", "b", "a"}, {"b", "a", "c"}} {
		if s, ok := r.Turn(); s != want[0] || !ok {
			t.Errorf("turned: %q %v, not %q", s, ok, want[0])
		}
		has(t, "turned", r, want...)
	}
	r.Kill("d", 1)
	has(t, "killed to what is at the top then", r, "bd", "a", "c")
	r.Kill("e", 0)
	has(t, "killed", r, "e", "bd", "a", "c")
}

// P2.3: a full ring turns all round, and drops what is at the bottom then.
func TestTurnFull(t *testing.T) {
	r := &undo.Ring{}
	for n := range 20 {
		r.Kill("t"+strconv.Itoa(n), 0)
	}
	r.Turn()
	has(t, "turned", r, append(texts(18, 19), "t19")...)
	r.Kill("new", 0)
	has(t, "killed", r, append([]string{"new"}, texts(18, 19)...)...)
	for range 20 {
		r.Turn()
	}
	has(t, "all round", r, append([]string{"new"}, texts(18, 19)...)...)
}

// R4: what was answered may be written over, grown and kept.
func TestAnswersOfRing(t *testing.T) {
	r := ring("a", "b", "c")
	l, kept := r.Texts(), r.Texts()
	for i := range l {
		l[i] = "over"
	}
	_ = append(l, "over", "over")
	_ = append(l[:1], "over")
	has(t, "written over", r, "c", "b", "a")
	r.Kill("d", 1)
	r.Turn()
	r.Kill("e", 0)
	if !slices.Equal(kept, []string{"c", "b", "a"}) {
		t.Errorf("a kept list changed: %q", kept)
	}
}

// P1: long texts, and each ring one of its own.
func TestLongTexts(t *testing.T) {
	long := strings.Repeat("l", api.MaxText)
	var a, b undo.Ring
	for range 3 {
		a.Kill(long, 1)
	}
	has(t, "a", &a, long+long+long)
	has(t, "b", &b)
}
