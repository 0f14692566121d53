package tree_test

import (
	"math"
	"regexp"

	"slices"
	"strconv"
	"strings"
	"testing"

	"quillwort/api"
	"quillwort/tree"
)

// letters are the Kinds' letters as the chapter lists them, from 1 on.
var letters = strings.Fields("P L A I S X W R B U F H O C T N E M")

// far are numbers outside of any row.
var far = []int{math.MinInt, math.MinInt + 1, -api.MaxText, -3, -2, -1, api.MaxText + 1, math.MaxInt - 1, math.MaxInt}

// row is nodes that are written one by one, each as its Kind, From, To and Up.
func row(s string) (l []api.Node) {
	if s == "" {
		return nil
	}
	for _, text := range strings.Split(s, ",") {
		var n [4]int
		for i, f := range strings.Fields(text) {
			number, bad := strconv.Atoi(f)
			if bad != nil {
				panic(bad)
			}
			n[i] = number
		}
		l = append(l, api.Node{Kind: n[0], From: n[1], To: n[2], Up: n[3]})
	}
	return l
}

// above are the nodes above one, the nearest first, as far as Ups lead to nodes, and not on and on.
func above(l []api.Node, i int) (all []int) {
	for up := l[i].Up; up >= 0 && up < len(l) && len(all) <= len(l); up = l[up].Up {
		all = append(all, up)
	}
	return all
}

// right is what Check is to answer, by the chapter's words.
func right(l []api.Node, leaves int) bool {
	if len(l) == 0 || l[0].Up != -1 || l[0].From != 0 || l[0].To != leaves {
		return false
	}
	for i, n := range l {
		if n.Kind < 1 || n.Kind > 18 || n.From > n.To || i > 0 && !placed(l, i) {
			return false
		}
	}
	return true
}

// placed tells whether a node is as it is to be by those ahead of it.
func placed(l []api.Node, i int) bool {
	n := l[i]
	if n.Up != i-1 && !slices.Contains(above(l, i-1), n.Up) {
		return false
	}
	for elder := range i {
		if l[elder].Up == n.Up && n.From < l[elder].To {
			return false
		}
	}
	return n.From >= l[n.Up].From && n.To <= l[n.Up].To
}

// kids is what Kids is to answer of a node.
func kids(l []api.Node, i int) (all []int) {
	for k, n := range l {
		if n.Up == i {
			all = append(all, k)
		}
	}
	return all
}

// path is what Path is to answer of a node.
func path(l []api.Node, i int) []int {
	all := append([]int{i}, above(l, i)...)
	slices.Reverse(all)
	return all
}

// end is what End is to answer of a node.
func end(l []api.Node, i int) int {
	last := i
	for k := range l {
		if slices.Contains(above(l, k), i) {
			last = k
		}
	}
	return last + 1
}

// cover is what Cover is to answer.
func cover(l []api.Node, leaf int) int {
	last := -1
	for i, n := range l {
		if n.From <= leaf && leaf < n.To {
			last = i
		}
	}
	return last
}

// after is a node behind all that are below it.
func after(l []api.Node, i int) (all []int) {
	for _, k := range kids(l, i) {
		all = append(all, after(l, k)...)
	}
	return append(all, i)
}

// sub is what Sub is to answer of a node.
func sub(l []api.Node, i int) (all []api.Node) {
	for k, n := range l {
		switch {
		case k == i:
			all = append(all, api.Node{Kind: n.Kind, From: n.From, To: n.To, Up: -1})
		case slices.Contains(above(l, k), i):
			all = append(all, api.Node{Kind: n.Kind, From: n.From, To: n.To, Up: n.Up - i})
		}
	}
	return all
}

// hung is what Hang is to answer.
func hung(l, sub []api.Node, by int) (all []api.Node) {
	all = append(all, l...)
	if len(l) == 0 {
		return all
	}
	for i, n := range sub {
		up := n.Up + len(l)
		if i == 0 {
			up = 0
		}
		all = append(all, api.Node{Kind: n.Kind, From: n.From + by, To: n.To + by, Up: up})
	}
	return all
}

// text is a node's text, of nodes whose Ups are right.
func text(l []api.Node, i int) string {
	n := l[i]
	s := letters[n.Kind-1] + strconv.Itoa(n.From) + "-" + strconv.Itoa(n.To)
	var below []string
	for _, k := range kids(l, i) {
		below = append(below, text(l, k))
	}
	if len(below) == 0 {
		return s
	}
	return s + "(" + strings.Join(below, " ") + ")"
}

// checked checks what Check and Show tell of any row, and that the other calls end at it; false: something is otherwise.
func checked(t *testing.T, l []api.Node) bool {
	t.Helper()
	ok, leaves := false, []int{-1, 0, 1, 2, 3, math.MinInt, math.MaxInt}
	if len(l) > 0 {
		ok = right(l, l[0].To)
		leaves = append(leaves, l[0].To)
	}
	for _, n := range leaves {
		want := ok && n == l[0].To
		if got := tree.Check(l, n); got != want {
			t.Errorf("Check(%v, %d): %t", l, n, got)
			return false
		}
	}
	if s := tree.Show(l); !ok && s != "" {
		t.Errorf("Show(%v): %q", l, s)
		return false
	}
	for i := -1; i <= len(l); i++ {
		tree.Kids(l, i)
		tree.Path(l, i)
		tree.End(l, i)
		tree.Cover(l, i)
		tree.Sub(l, i)
		tree.Hang(l, l, i)
	}
	tree.After(l)
	return true
}

// told checks all that is told of a right tree, and that its text leads to it; false: something is otherwise.
func told(t *testing.T, l []api.Node) bool {
	t.Helper()
	if !right(l, l[0].To) || !checked(t, l) {
		t.Errorf("%v isn't right", l)
		return false
	}
	for i := range l {
		if !nodeTold(t, l, i) {
			return false
		}
	}
	for _, i := range append([]int{len(l), len(l) + 1}, far...) {
		if i >= 0 && i < len(l) {
			continue
		}
		if k, p, e, s := tree.Kids(l, i), tree.Path(l, i), tree.End(l, i), tree.Sub(l, i); len(k) > 0 || len(p) > 0 || e != 0 || len(s) > 0 {
			t.Errorf("%v: of %d, which is no node: %v, %v, %d, %v", l, i, k, p, e, s)
			return false
		}
	}
	for leaf := -2; leaf <= l[0].To+2; leaf++ {
		if got, want := tree.Cover(l, leaf), cover(l, leaf); got != want {
			t.Errorf("Cover(%v, %d): %d, not %d", l, leaf, got, want)
			return false
		}
	}
	if got, want := tree.After(l), after(l, 0); !slices.Equal(got, want) {
		t.Errorf("After(%v): %v, not %v", l, got, want)
		return false
	}
	return spelled(t, l)
}

// nodeTold checks what is told of one node of a right tree.
func nodeTold(t *testing.T, l []api.Node, i int) bool {
	t.Helper()
	if got, want := tree.Kids(l, i), kids(l, i); !slices.Equal(got, want) {
		t.Errorf("Kids(%v, %d): %v, not %v", l, i, got, want)
		return false
	}
	if got, want := tree.Path(l, i), path(l, i); !slices.Equal(got, want) {
		t.Errorf("Path(%v, %d): %v, not %v", l, i, got, want)
		return false
	}
	if got, want := tree.End(l, i), end(l, i); got != want {
		t.Errorf("End(%v, %d): %d, not %d", l, i, got, want)
		return false
	}
	if got, want := tree.Sub(l, i), sub(l, i); !slices.Equal(got, want) {
		t.Errorf("Sub(%v, %d): %v, not %v", l, i, got, want)
		return false
	}
	return true
}

// spelled checks a right tree's text, and that it is read as it was.
func spelled(t *testing.T, l []api.Node) bool {
	t.Helper()
	s := text(l, 0)
	if got := tree.Show(l); got != s {
		t.Errorf("Show(%v): %q, not %q", l, got, s)
		return false
	}
	if got, at, e := tree.Read(s); !slices.Equal(got, l) || at != 0 || e != api.OK {
		t.Errorf("Read(%q): %v, %d, %d", s, got, at, e)
		return false
	}
	return true
}

// P11.1: which rows are right, and over how many leaves.
func TestCheck(t *testing.T) {
	for _, c := range []struct {
		l      string
		leaves int
		want   bool
	}{
		// a row without a node, and trees of one
		{"", 0, false},
		{"", 1, false},
		{"", -1, false},
		{"1 0 0 -1", 0, true},
		{"1 0 0 -1", 1, false},
		{"1 0 0 -1", -1, false},
		{"1 0 3 -1", 3, true},
		{"1 0 3 -1", 2, false},
		{"1 0 3 -1", 4, false},
		{"1 0 3 -1", 0, false},
		{"1 0 3 -1", math.MaxInt, false},
		{"1 0 3 -1", math.MinInt, false},
		{"1 0 9223372036854775807 -1", math.MaxInt, true},
		// Kinds, of the first node and of another one
		{"0 0 1 -1", 1, false},
		{"18 0 1 -1", 1, true},
		{"19 0 1 -1", 1, false},
		{"-1 0 1 -1", 1, false},
		{"257 0 1 -1", 1, false},
		{"-9223372036854775808 0 1 -1", 1, false},
		{"9223372036854775807 0 1 -1", 1, false},
		{"7 0 1 -1", 1, true},
		{"1 0 1 -1, 0 0 1 0", 1, false},
		{"1 0 1 -1, 1 0 1 0", 1, true},
		{"1 0 1 -1, 18 0 1 0", 1, true},
		{"1 0 1 -1, 19 0 1 0", 1, false},
		{"1 0 1 -1, -1 0 1 0", 1, false},
		// the first node
		{"1 0 2 0", 2, false},
		{"1 0 2 1", 2, false},
		{"1 0 2 -2", 2, false},
		{"1 0 2 9223372036854775807", 2, false},
		{"1 0 2 1, 7 0 1 0", 2, false},
		{"1 1 2 -1", 2, false},
		{"1 1 2 -1", 1, false},
		{"1 -1 2 -1", 2, false},
		{"1 -1 2 -1", 3, false},
		{"1 0 -1 -1", -1, false},
		{"1 0 1 -1, 7 0 1 0", 2, false},
		{"1 0 2 -1, 7 0 1 0", 1, false},
		// Ups: itself, one behind it, below 0, beyond the row
		{"1 0 2 -1, 7 0 1 0", 2, true},
		{"1 0 2 -1, 7 0 1 1", 2, false},
		{"1 0 2 -1, 7 0 1 2", 2, false},
		{"1 0 2 -1, 7 0 1 2, 7 1 2 0", 2, false},
		{"1 0 2 -1, 7 0 1 -1", 2, false},
		{"1 0 2 -1, 7 0 2 -1", 2, false},
		{"1 0 2 -1, 7 0 1 -2", 2, false},
		{"1 0 2 -1, 7 0 1 -9223372036854775808", 2, false},
		{"1 0 2 -1, 7 0 1 9223372036854775807", 2, false},
		{"1 0 2 -1, 2 0 1 0, 7 0 1 -1", 2, false},
		{"1 0 2 -1, 2 0 1 0, 7 0 1 2", 2, false},
		// Ups: the node right ahead, one above that, and neither
		{"1 0 2 -1, 2 0 1 0, 7 0 1 1", 2, true},
		{"1 0 2 -1, 2 0 1 0, 7 1 2 0", 2, true},
		{"1 0 3 -1, 2 0 2 0, 7 0 1 1, 7 1 2 2", 3, false},
		{"1 0 3 -1, 2 0 2 0, 7 0 1 1, 7 1 2 1", 3, true},
		{"1 0 3 -1, 2 0 2 0, 7 0 1 1, 7 2 3 0", 3, true},
		{"1 0 3 -1, 2 0 1 0, 2 1 2 0, 7 1 1 1", 3, false},
		{"1 0 3 -1, 2 0 2 0, 2 2 2 0, 7 2 2 1", 3, false},
		{"1 0 2 -1, 2 0 1 0, 7 0 1 1, 7 1 2 0, 7 2 2 1", 2, false},
		{"1 0 2 -1, 2 0 1 0, 7 0 1 1, 7 1 2 0, 7 1 2 1", 2, false},
		{"1 0 2 -1, 2 0 1 0, 7 0 1 1, 7 1 2 0, 7 1 1 2", 2, false},
		{"1 0 2 -1, 2 0 1 0, 7 0 1 1, 7 1 2 0, 7 1 2 3", 2, true},
		{"1 0 2 -1, 2 0 1 0, 7 0 1 1, 7 1 2 0, 7 2 2 0", 2, true},
		// From above To
		{"1 0 3 -1, 7 2 1 0", 3, false},
		{"1 0 3 -1, 7 1 0 0", 3, false},
		{"1 0 3 -1, 7 3 2 0", 3, false},
		// outside Up's
		{"1 0 3 -1, 7 0 3 0", 3, true},
		{"1 0 3 -1, 7 0 4 0", 3, false},
		{"1 0 3 -1, 7 4 4 0", 3, false},
		{"1 0 3 -1, 7 3 4 0", 3, false},
		{"1 0 3 -1, 7 -1 0 0", 3, false},
		{"1 0 3 -1, 7 -1 -1 0", 3, false},
		{"1 0 3 -1, 2 1 2 0, 7 1 2 1", 3, true},
		{"1 0 3 -1, 2 1 2 0, 7 0 2 1", 3, false},
		{"1 0 3 -1, 2 1 2 0, 7 0 1 1", 3, false},
		{"1 0 3 -1, 2 1 2 0, 7 0 0 1", 3, false},
		{"1 0 3 -1, 2 1 2 0, 7 1 3 1", 3, false},
		{"1 0 3 -1, 2 1 2 0, 7 2 3 1", 3, false},
		{"1 0 3 -1, 2 1 2 0, 7 3 3 1", 3, false},
		// behind an elder sister, with and without something below her
		{"1 0 4 -1, 7 0 2 0, 7 1 3 0", 4, false},
		{"1 0 4 -1, 7 0 2 0, 7 0 0 0", 4, false},
		{"1 0 4 -1, 7 0 2 0, 7 2 3 0", 4, true},
		{"1 0 4 -1, 7 0 2 0, 7 3 4 0", 4, true},
		{"1 0 4 -1, 2 0 2 0, 7 0 1 1, 7 1 3 0", 4, false},
		{"1 0 4 -1, 2 0 2 0, 7 0 1 1, 7 2 3 0", 4, true},
		{"1 0 4 -1, 2 0 2 0, 3 0 1 1, 7 0 1 2, 7 1 3 0", 4, false},
		{"1 0 4 -1, 2 0 2 0, 3 0 1 1, 7 0 1 2, 7 2 3 0", 4, true},
		{"1 0 4 -1, 2 0 2 0, 3 0 1 1, 7 0 1 2, 7 1 2 1", 4, true},
		{"1 0 4 -1, 2 0 2 0, 3 0 1 1, 7 0 1 2, 7 0 2 1", 4, false},
		{"1 0 4 -1, 7 0 2 0, 18 2 2 0, 7 1 4 0", 4, false},
		{"1 0 4 -1, 7 0 2 0, 18 2 2 0, 7 2 4 0", 4, true},
		// nodes that cover no leaf, at their Up's beginning, in its midst and at its end
		{"1 0 0 -1, 18 0 0 0", 0, true},
		{"1 0 0 -1, 18 0 0 0, 18 0 0 0, 18 0 0 0", 0, true},
		{"1 0 0 -1, 18 0 0 0, 18 0 0 1, 18 0 0 0", 0, true},
		{"1 0 2 -1, 18 0 0 0, 7 0 1 0, 18 1 1 0, 7 1 2 0, 18 2 2 0", 2, true},
		{"1 0 2 -1, 18 0 0 0, 18 1 1 0, 18 2 2 0", 2, true},
		{"1 0 2 -1, 18 1 1 0, 18 0 0 0", 2, false},
		{"1 0 2 -1, 7 0 2 0, 18 1 1 0", 2, false},
		{"1 0 2 -1, 7 0 2 0, 18 1 1 1", 2, true},
		// leaves that no kid covers
		{"1 0 5 -1, 7 1 2 0, 7 4 5 0", 5, true},
		{"1 0 5 -1, 7 1 1 0", 5, true},
		{"1 0 5 -1, 2 1 4 0, 7 2 3 1", 5, true},
	} {
		l := row(c.l)
		if got := tree.Check(l, c.leaves); got != c.want {
			t.Errorf("Check of %s over %d: %t", c.l, c.leaves, got)
		}
		if right(l, c.leaves) != c.want {
			t.Errorf("%s over %d: the words are told wrongly", c.l, c.leaves)
		}
		checked(t, l)
	}
}

// P11.1, P11.3, P1: every field of each node of right trees as something else.
func TestTurned(t *testing.T) {
	others := append([]int{0, 1, 2, 3, 4, 5, 18, 19}, far...)
	wrong := 0
	for _, s := range []string{"P0-0", "P0-3", "P0-2(W0-1 W1-2)", "P0-4(L0-2(A0-1(W0-1) M1-1 W1-2) E2-3 L3-4(W3-4))", "P0-2(L0-2(A0-2(I0-2(S0-2(W0-1 W1-2)))))"} {
		l, _, bad := tree.Read(s)
		if bad != api.OK {
			t.Fatalf("%s: %d", s, bad)
		}
		for i := range l {
			for _, field := range []*int{&l[i].Kind, &l[i].From, &l[i].To, &l[i].Up} {
				was := *field
				for _, *field = range others {
					if !checked(t, l) {
						return
					}
					if !right(l, l[0].To) {
						wrong++
					}
				}
				*field = was
			}
		}
	}
	if wrong < 500 {
		t.Errorf("%d wrong rows alone", wrong)
	}
}

// longer are the rows that have one of those nodes more than one of these.
func longer(rows [][]api.Node, those []api.Node) (all [][]api.Node) {
	for _, l := range rows {
		for _, n := range those {
			all = append(all, append(slices.Clone(l), n))
		}
	}
	return all
}

// anyOf are all nodes with these Kinds, with From and To among these numbers, and Up among those.
func anyOf(kinds, places, ups []int) (all []api.Node) {
	for _, kind := range kinds {
		for _, from := range places {
			for _, to := range places {
				for _, up := range ups {
					all = append(all, api.Node{Kind: kind, From: from, To: to, Up: up})
				}
			}
		}
	}
	return all
}

// P11.1, P11.3, P1: all small rows, right ones and others.
func TestRows(t *testing.T) {
	none, root := [][]api.Node{nil}, [][]api.Node{row("1 0 2 -1")}
	kinds, places, ups := []int{-1, 0, 1, 18, 19}, []int{-1, 0, 1, 2, 3}, []int{-2, -1, 0, 1, 2}
	first := longer(none, anyOf([]int{1}, []int{0, 1, 2}, []int{-1, 0, 1, 2}))
	some := anyOf([]int{7}, []int{0, 1, 2}, []int{-1, 0, 1, 2, 3})
	for _, rows := range [][][]api.Node{
		{nil, {}},
		longer(none, anyOf(kinds, places, ups)),
		longer(root, anyOf(kinds, places, ups)),
		longer(longer(first, some), some),
		longer(longer(longer(root, some), some), some),
	} {
		for _, l := range rows {
			if !checked(t, l) {
				return
			}
		}
	}
}

// within are all right rows that begin as a right one does, and have at most so many nodes, by the chapter's words.
func within(l []api.Node, most int, each func(l []api.Node) bool) bool {
	if !each(l) {
		return false
	}
	if len(l) == most {
		return true
	}
	for up := range l {
		for from := l[up].From; from <= l[up].To; from++ {
			for to := from; to <= l[up].To; to++ {
				next := append(slices.Clone(l), api.Node{Kind: (7*len(l)+5*from+3*to+up)%18 + 1, From: from, To: to, Up: up})
				if placed(next, len(l)) && !within(next, most, each) {
					return false
				}
			}
		}
	}
	return true
}

// P11.1 to P11.4: all small right trees.
func TestSmall(t *testing.T) {
	for _, c := range []struct{ leaves, nodes, count int }{{0, 8, 626}, {1, 6, 637}, {2, 6, 3579}, {3, 5, 2811}, {4, 4, 1206}, {5, 3, 274}} {
		count := 0
		for kind := 1; kind <= 18; kind++ {
			told(t, []api.Node{{Kind: kind, To: c.leaves, Up: -1}})
		}
		within([]api.Node{{Kind: 1, To: c.leaves, Up: -1}}, c.nodes, func(l []api.Node) bool {
			count++
			return told(t, l)
		})
		if count != c.count {
			t.Errorf("%d trees of at most %d nodes over %d leaves, not %d", count, c.nodes, c.leaves, c.count)
		}
	}
}

// chance is numbers that look like drawn ones, and are the same each time.
type chance uint64

// below is one from 0 up to ahead of n.
func (c *chance) below(n int) int {
	*c = *c*6364136223846793005 + 1442695040888963407
	return int(uint64(*c>>33) % uint64(n))
}

// grown is a right tree of so many nodes over so many leaves; of the nodes that may have more below them the deepest one has them most often, if deep is great.
func (c *chance) grown(nodes, leaves, deep int) []api.Node {
	l := []api.Node{{Kind: c.below(18) + 1, To: leaves, Up: -1}}
	ends := []int{0} // of each node, where its last kid ends, or where it begins
	for len(l) < nodes {
		up := len(l) - 1
		for up > 0 && c.below(deep) == 0 {
			up = l[up].Up
		}
		from := ends[up] + c.below(l[up].To-ends[up]+1)/(c.below(3)+1)
		to := l[up].To - c.below(l[up].To-from+1)/(c.below(3)+1)
		ends[up] = to
		ends = append(ends, from)
		l = append(l, api.Node{Kind: c.below(18) + 1, From: from, To: to, Up: up})
	}
	return l
}

// P11.1 to P11.4: many larger right trees, and what is wrong by one field.
func TestLarger(t *testing.T) {
	c := chance(11)
	for n := range 600 {
		l := c.grown(c.below(60)+6, c.below(30)*c.below(30), c.below(6)+1)
		if !told(t, l) {
			return
		}
		for range 20 {
			i := c.below(len(l))
			fields := []*int{&l[i].Kind, &l[i].From, &l[i].To, &l[i].Up}
			field := fields[c.below(len(fields))]
			was := *field
			*field += c.below(7) - 3
			if !checked(t, l) {
				return
			}
			*field = was
		}
		if n%100 > 0 {
			continue
		}
		if l := c.grown(1000, 1+c.below(5000), 1+c.below(9)); !right(l, l[0].To) || !spelled(t, l) {
			t.Errorf("%v", l)
			return
		}
	}
}

// sample is a tree with kids and what is below them, nodes with the same leaves one below the other, nodes that cover none, and leaves that no kid covers:
//
//	0 P 0-7
//	1   L 1-4
//	2     A 1-4
//	3       W 1-2
//	4       M 2-2
//	5       W 3-4
//	6   E 4-5
//	7   L 5-6
//	8     W 5-6
//	9   M 6-6
const sample = "P0-7(L1-4(A1-4(W1-2 M2-2 W3-4)) E4-5 L5-6(W5-6) M6-6)"

// sampled is the sample's nodes.
func sampled() []api.Node {
	return row("1 0 7 -1, 2 1 4 0, 3 1 4 1, 7 1 2 2, 18 2 2 2, 7 3 4 2, 17 4 5 0, 2 5 6 0, 7 5 6 7, 18 6 6 0")
}

// P11.1: what is told of each node.
func TestNodes(t *testing.T) {
	l := sampled()
	if !told(t, l) {
		return
	}
	for i, c := range []struct {
		kids, path []int
		end        int
	}{
		{[]int{1, 6, 7, 9}, []int{0}, 10},
		{[]int{2}, []int{0, 1}, 6},
		{[]int{3, 4, 5}, []int{0, 1, 2}, 6},
		{nil, []int{0, 1, 2, 3}, 4},
		{nil, []int{0, 1, 2, 4}, 5},
		{nil, []int{0, 1, 2, 5}, 6},
		{nil, []int{0, 6}, 7},
		{[]int{8}, []int{0, 7}, 9},
		{nil, []int{0, 7, 8}, 9},
		{nil, []int{0, 9}, 10},
	} {
		if got := tree.Kids(l, i); !slices.Equal(got, c.kids) {
			t.Errorf("Kids of %d: %v, not %v", i, got, c.kids)
		}
		if got := tree.Path(l, i); !slices.Equal(got, c.path) {
			t.Errorf("Path of %d: %v, not %v", i, got, c.path)
		}
		if got := tree.End(l, i); got != c.end {
			t.Errorf("End of %d: %d, not %d", i, got, c.end)
		}
	}
	for _, i := range append([]int{10, 11}, far...) {
		if k, p, e := tree.Kids(l, i), tree.Path(l, i), tree.End(l, i); len(k) > 0 || len(p) > 0 || e != 0 {
			t.Errorf("of %d, which is no node: %v, %v, %d", i, k, p, e)
		}
	}
}

// P11.1, P1: of a row without a node.
func TestEmpty(t *testing.T) {
	for _, l := range [][]api.Node{nil, {}} {
		for _, i := range append([]int{0, 1, 2}, far...) {
			if k, p, e, c, s := tree.Kids(l, i), tree.Path(l, i), tree.End(l, i), tree.Cover(l, i), tree.Sub(l, i); len(k) > 0 || len(p) > 0 || e != 0 || c != -1 || len(s) > 0 {
				t.Errorf("of %d: %v, %v, %d, %d, %v", i, k, p, e, c, s)
			}
			if tree.Check(l, i) {
				t.Errorf("right over %d leaves", i)
			}
		}
		if a, s := tree.After(l), tree.Show(l); len(a) > 0 || s != "" {
			t.Errorf("%v, %q", a, s)
		}
	}
}

// P11.1: the last node that covers a leaf.
func TestCover(t *testing.T) {
	for _, c := range []struct {
		l    string
		want []int // of the leaves 0, 1, ..
	}{
		{"1 0 0 -1", nil},
		{"1 0 2 -1", []int{0, 0}},
		{"1 0 2 -1, 18 0 0 0, 18 1 1 0, 18 2 2 0", []int{0, 0}},
		{"1 0 2 -1, 2 0 2 0, 3 0 2 1", []int{2, 2}},
		{"1 0 3 -1, 7 0 1 0, 7 1 2 0, 7 2 3 0", []int{1, 2, 3}},
		{"1 0 3 -1, 7 1 2 0", []int{0, 1, 0}},
		{"1 0 3 -1, 2 0 3 0, 7 1 2 1", []int{1, 2, 1}},
		{"1 0 3 -1, 2 0 2 0, 7 0 1 1, 18 2 2 0", []int{2, 1, 0}},
	} {
		l := row(c.l)
		for leaf, want := range c.want {
			if got := tree.Cover(l, leaf); got != want {
				t.Errorf("%s: the leaf %d: %d, not %d", c.l, leaf, got, want)
			}
		}
		for _, leaf := range append([]int{len(c.want), len(c.want) + 1}, far...) {
			if got := tree.Cover(l, leaf); got != -1 {
				t.Errorf("%s: the leaf %d: %d", c.l, leaf, got)
			}
		}
	}
	l := sampled()
	for leaf, want := range []int{0, 3, 2, 5, 6, 8, 0, -1, -1} {
		if got := tree.Cover(l, leaf); got != want {
			t.Errorf("the leaf %d: %d, not %d", leaf, got, want)
		}
	}
}

// P11.1: all nodes, each behind those below it.
func TestAfter(t *testing.T) {
	for _, c := range []struct {
		l    string
		want []int
	}{
		{"1 0 1 -1", []int{0}},
		{"1 0 1 -1, 2 0 1 0, 3 0 1 1, 4 0 1 2", []int{3, 2, 1, 0}},
		{"1 0 3 -1, 7 0 1 0, 7 1 2 0, 7 2 3 0", []int{1, 2, 3, 0}},
		{"1 0 3 -1, 2 0 1 0, 7 0 1 1, 2 1 3 0, 7 1 2 3, 7 2 3 3", []int{2, 1, 4, 5, 3, 0}},
		{"1 0 3 -1, 2 0 2 0, 3 0 1 1, 7 0 1 2, 7 2 3 0", []int{3, 2, 1, 4, 0}},
		{"1 0 3 -1, 7 0 1 0, 2 1 3 0, 3 2 3 2, 7 2 3 3", []int{1, 4, 3, 2, 0}},
	} {
		if got := tree.After(row(c.l)); !slices.Equal(got, c.want) {
			t.Errorf("%s: %v, not %v", c.l, got, c.want)
		}
	}
	if got, want := tree.After(sampled()), []int{3, 4, 5, 2, 1, 6, 8, 7, 9, 0}; !slices.Equal(got, want) {
		t.Errorf("%v, not %v", got, want)
	}
}

// P11.2: a node and what is below it.
func TestSub(t *testing.T) {
	l := sampled()
	for i, want := range []string{
		0: "1 0 7 -1, 2 1 4 0, 3 1 4 1, 7 1 2 2, 18 2 2 2, 7 3 4 2, 17 4 5 0, 2 5 6 0, 7 5 6 7, 18 6 6 0",
		1: "2 1 4 -1, 3 1 4 0, 7 1 2 1, 18 2 2 1, 7 3 4 1",
		2: "3 1 4 -1, 7 1 2 0, 18 2 2 0, 7 3 4 0",
		3: "7 1 2 -1",
		4: "18 2 2 -1",
		5: "7 3 4 -1",
		6: "17 4 5 -1",
		7: "2 5 6 -1, 7 5 6 0",
		8: "7 5 6 -1",
		9: "18 6 6 -1",
	} {
		if got := tree.Sub(l, i); !slices.Equal(got, row(want)) {
			t.Errorf("%d: %v, not %s", i, got, want)
		}
	}
	for _, i := range append([]int{len(l), len(l) + 1}, far...) {
		if got := tree.Sub(l, i); len(got) > 0 {
			t.Errorf("%d, which is no node: %v", i, got)
		}
	}
}

// P11.2: a row that is hung on another one.
func TestHang(t *testing.T) {
	for _, c := range []struct {
		l, sub string
		by     int
		want   string
	}{
		{"", "", 0, ""},
		{"", "7 0 1 -1", 0, ""},
		{"", "7 0 1 -1, 7 0 1 0", 5, ""},
		{"1 0 2 -1, 7 0 1 0", "", 0, "1 0 2 -1, 7 0 1 0"},
		{"1 0 2 -1, 7 0 1 0", "", 5, "1 0 2 -1, 7 0 1 0"},
		{"1 0 2 -1", "7 0 1 -1", 0, "1 0 2 -1, 7 0 1 0"},
		{"1 0 2 -1", "7 0 1 -1", 1, "1 0 2 -1, 7 1 2 0"},
		{"1 0 2 -1, 7 0 1 0", "7 3 4 -1", -2, "1 0 2 -1, 7 0 1 0, 7 1 2 0"},
		{"1 0 3 -1, 7 0 1 0", "2 1 3 -1, 7 1 2 0, 7 2 3 0", 0, "1 0 3 -1, 7 0 1 0, 2 1 3 0, 7 1 2 2, 7 2 3 2"},
		{"1 0 9 -1, 2 0 3 0, 7 0 1 1", "2 0 3 -1, 3 0 2 0, 7 0 1 1, 7 2 3 0", 4, "1 0 9 -1, 2 0 3 0, 7 0 1 1, 2 4 7 0, 3 4 6 3, 7 4 5 4, 7 6 7 3"},
		{"1 0 9 -1, 2 0 3 0, 7 0 1 1", "2 8 9 -1, 3 8 9 0", -9, "1 0 9 -1, 2 0 3 0, 7 0 1 1, 2 -1 0 0, 3 -1 0 3"},
		// rows that aren't trees
		{"0 5 2 7", "19 4 1 9", 3, "0 5 2 7, 19 7 4 0"},
		{"0 5 2 7, 1 1 1 -3", "19 4 1 -9, 20 0 0 -1, 21 9 8 1, 22 1 1 9", 1, "0 5 2 7, 1 1 1 -3, 19 5 2 0, 20 1 1 1, 21 10 9 3, 22 2 2 11"},
		// to the ends of all numbers
		{"1 0 2 -1", "7 0 0 -1", math.MaxInt, "1 0 2 -1, 7 9223372036854775807 9223372036854775807 0"},
		{"1 0 2 -1", "7 0 0 -1", math.MinInt, "1 0 2 -1, 7 -9223372036854775808 -9223372036854775808 0"},
		{"1 0 2 -1", "7 -9223372036854775808 9223372036854775806 9223372036854775807", 1, "1 0 2 -1, 7 -9223372036854775807 9223372036854775807 0"},
	} {
		if got := tree.Hang(row(c.l), row(c.sub), c.by); !slices.Equal(got, row(c.want)) {
			t.Errorf("%s, with %s by %d: %v, not %s", c.l, c.sub, c.by, got, c.want)
		}
	}
}

// P11.2: any row on any other one; and trees that are put together of what hangs on their first nodes.
func TestHung(t *testing.T) {
	c := chance(2)
	for range 300 {
		l, more := c.grown(1+c.below(20), c.below(40), 3), c.grown(1+c.below(20), c.below(40), 3)
		by := c.below(100) - 50
		for _, r := range [][2][]api.Node{{l, more}, {l, nil}, {nil, l}, {l, l}, {l, more[:1]}, {l[:1], more}, {l, more[1:]}} {
			if got, want := tree.Hang(r[0], r[1], by), hung(r[0], r[1], by); !slices.Equal(got, want) {
				t.Fatalf("%v, with %v by %d: %v, not %v", r[0], r[1], by, got, want)
			}
		}
		again := l[:1]
		for _, k := range tree.Kids(l, 0) {
			again = tree.Hang(again, tree.Sub(l, k), 0)
		}
		if !slices.Equal(again, l) {
			t.Fatalf("%v, not %v", again, l)
		}
	}
	for _, by := range far { // sums that no int can tell
		if got := tree.Hang(sampled(), sampled(), by); len(got) != 20 || !slices.Equal(got[:10], sampled()) {
			t.Errorf("by %d: %v", by, got)
		}
	}
}

// P11.3: texts of trees.
func TestShow(t *testing.T) {
	for _, c := range []struct{ l, want string }{
		{"", ""},
		{"1 0 0 -1", "P0-0"},
		{"7 0 3 -1", "W0-3"},
		{"1 0 2 -1, 7 0 1 0, 7 1 2 0", "P0-2(W0-1 W1-2)"},
		{"1 0 2 -1, 2 0 2 0, 3 0 2 1", "P0-2(L0-2(A0-2))"},
		{"1 0 12 -1, 2 0 10 0, 3 9 10 1, 17 10 11 0, 18 12 12 0", "P0-12(L0-10(A9-10) E10-11 M12-12)"},
		{"1 0 1234567 -1, 7 999999 1000000 0", "P0-1234567(W999999-1000000)"},
		{"1 0 9223372036854775807 -1", "P0-9223372036854775807"},
		{"0 0 1 -1", ""},
		{"19 0 1 -1", ""},
		{"-1 0 1 -1", ""},
		{"1 0 1 0", ""},
		{"1 1 2 -1", ""},
		{"1 0 -1 -1", ""},
		{"1 -1 1 -1", ""},
		{"1 0 1 -1, 19 0 1 0", ""},
		{"1 0 1 -1, 0 0 1 0", ""},
		{"1 0 2 -1, 7 0 1 0, 7 0 1 0", ""},
		{"1 0 2 -1, 7 0 3 0", ""},
		{"1 0 2 -1, 7 0 1 -1", ""},
		{"1 0 2 -1, 7 0 1 1", ""},
		{"1 0 2 -1, 7 2 1 0", ""},
	} {
		if got := tree.Show(row(c.l)); got != c.want {
			t.Errorf("%s: %q, not %q", c.l, got, c.want)
		}
	}
	if got := tree.Show(sampled()); got != sample {
		t.Errorf("%q, not %q", got, sample)
	}
	for i, letter := range letters {
		l := []api.Node{{Kind: i + 1, To: 1, Up: -1}, {Kind: i + 1, To: 1}}
		if got, want := tree.Show(l), letter+"0-1("+letter+"0-1)"; got != want {
			t.Errorf("%q, not %q", got, want)
		}
	}
}

// refused checks that a text is read as no tree; false: it is otherwise.
func refused(t *testing.T, s string, at int, e api.Errno) bool {
	t.Helper()
	if l, where, bad := tree.Read(s); len(l) > 0 || where != at || bad != e {
		t.Errorf("Read(%q): %v, %d, %d, not %d, %d", s, l, where, bad, at, e)
		return false
	}
	return true
}

// P11.3: trees of texts.
func TestRead(t *testing.T) {
	for _, c := range []struct{ s, want string }{
		{"P0-0", "1 0 0 -1"},
		{"P0-3", "1 0 3 -1"},
		{"W0-10", "7 0 10 -1"},
		{"M0-9999999", "18 0 9999999 -1"},
		{"P0-1234567(W999999-1000000)", "1 0 1234567 -1, 7 999999 1000000 0"},
		{"P0-2(W0-1 W1-2)", "1 0 2 -1, 7 0 1 0, 7 1 2 0"},
		{"P0-2(L0-2(A0-2))", "1 0 2 -1, 2 0 2 0, 3 0 2 1"},
		{"P0-0(M0-0 M0-0 M0-0)", "1 0 0 -1, 18 0 0 0, 18 0 0 0, 18 0 0 0"},
		{"P0-2(L0-1(W0-1) L1-2(W1-2))", "1 0 2 -1, 2 0 1 0, 7 0 1 1, 2 1 2 0, 7 1 2 3"},
		{"P0-3(L0-2(A0-2(W0-1) M2-2) W2-3)", "1 0 3 -1, 2 0 2 0, 3 0 2 1, 7 0 1 2, 18 2 2 1, 7 2 3 0"},
	} {
		if got, at, e := tree.Read(c.s); !slices.Equal(got, row(c.want)) || at != 0 || e != api.OK {
			t.Errorf("%s: %v, %d, %d, not %s", c.s, got, at, e, c.want)
		}
	}
	if got, at, e := tree.Read(sample); !slices.Equal(got, sampled()) || at != 0 || e != api.OK {
		t.Errorf("%s: %v, %d, %d", sample, got, at, e)
	}
}

// P11.3: what can't be, and where.
func TestForm(t *testing.T) {
	for _, c := range []struct {
		s  string
		at int
	}{
		// ended too early
		{"", 0},
		{"P", 1},
		{"P0", 2},
		{"P0-", 3},
		{"P10", 3},
		{"P10-", 4},
		{"P1234567", 8},
		{"P0-0(", 5},
		{"P0-0(W", 6},
		{"P0-0(W0", 7},
		{"P0-0(W0-", 8},
		{"P0-0(W0-0", 9},
		{"P0-0(W0-0 ", 10},
		{"P0-0(W0-0 W0-0", 14},
		{"P0-0(W0-0(W0-0", 14},
		{"P0-0(W0-0(W0-0)", 15},
		{"P0-0(W0-0(W0-0) ", 16},
		{"P0-0(((", 5},
		// numbers
		{"P-", 1},
		{"P-0", 1},
		{"P--", 1},
		{"P0--", 3},
		{"P0-(", 3},
		{"P0(", 2},
		{"P0 -0", 2},
		{"P 0-0", 1},
		{"P+0-0", 1},
		{"P0-+0", 3},
		{"P0-a", 3},
		{"P0-0a", 4},
		{"P0.0-1", 2},
		{"P0_0-1", 2},
		{"P00-0", 2},
		{"P01-2", 2},
		{"P0-00", 4},
		{"P0-01", 4},
		{"P0-09", 4},
		{"P0-0000000", 4},
		{"P12345678-0", 8},
		{"P12345678", 8},
		{"P10000000-0", 8},
		{"P0-12345678", 10},
		{"P0-10000000", 10},
		{"P0-99999990", 10},
		{"P0-123456789012345678901234567890", 10},
		{"P0-1(W0-12345678)", 15},
		{"P0-1(W0-01)", 9},
		{"P0-1(W00-1)", 7},
		{"P1-0(W1-0", 9}, // the form goes ahead of the rest
		{"P5-2(x", 5},
		// brackets and spaces
		{"P0-0()", 5},
		{"P0-0( )", 5},
		{"P0-0( W0-0)", 5},
		{"P0-0((W0-0))", 5},
		{"P0-0 (W0-0)", 4},
		{"P0-0(W0-0  W0-0)", 10},
		{"P0-0(W0-0 )", 10},
		{"P0-0(W0-0()", 10},
		{"P0-0(W0-0 (W0-0))", 10},
		{"P0-0(W0-0(W0-0) )", 16},
		{"P0-0(W0-0W0-0)", 9},
		{"P0-0(W0-0,W0-0)", 9},
		{"P0-0(W0-0\tW0-0)", 9},
		{"P0-0(W0-0\nW0-0)", 9},
		{"P0-0(W0-0(W0-0)W0-0)", 15},
		{"P0-0(W0-0(W0-0)(W0-0))", 15},
		{"P0-0[W0-0]", 4},
		{"(P0-0)", 0},
		{"0-0", 0},
		{"-", 0},
		{" ", 0},
		{" P0-0", 0},
		{"()", 0},
		{"p0-0", 0},
		{"Q0-0", 0},
		{"PP0-0", 1},
		// behind the tree's end
		{"P0-0 ", 4},
		{"P0-0)", 4},
		{"P0-0W", 4},
		{"P0-0-", 4},
		{"P0-0\n", 4},
		{"P0-0\x00", 4},
		{"P0-0 P0-0", 4},
		{"P0-0(W0-0)x", 10},
		{"P0-0(W0-0))", 10},
		{"P0-0(W0-0)(", 10},
		{"P0-0(W0-0)(W0-0)", 10},
		{"P0-0(W0-0) ", 10},
		{"P0-0(W0-0) W0-0", 10},
		{"P0-0(W0-0)W0-0", 10},
		{"P0-0(W0-0)0", 10},
		{"P0-0(W0-0(W0-0)))", 16},
	} {
		refused(t, c.s, c.at, api.ErrForm)
	}
}

// P11.3: texts of the form whose trees aren't right.
func TestState(t *testing.T) {
	for _, s := range []string{
		"P1-1", "P1-2", "P1-0", "P9999999-9999999", "P5-2(W3-4)", "P1-1(W1-1)",
		"P0-2(W0-3)", "P0-2(W2-3)", "P0-2(W3-3)", "P0-2(W1-0)", "P0-2(W2-1)", "P0-0(W1-1)", "P0-0(W0-1)",
		"P0-2(W0-2 W1-2)", "P0-2(W0-1 W0-1)", "P0-2(W1-2 W0-1)", "P0-2(W0-1 W1-2 M1-1)", "P0-2(W0-2 M1-1)",
		"P0-3(L1-2(W0-1))", "P0-3(L1-2(W2-3))", "P0-3(L1-2(W0-2))", "P0-3(L1-2(W1-3))", "P0-3(L0-2(W0-1) W1-2)",
		"P0-9(L0-9(A0-9(I0-9(S0-9(W0-8 W7-9)))))",
	} {
		refused(t, s, 0, api.ErrState)
	}
}

// P11.3: each byte as a letter, and each Kind's letter.
func TestLetters(t *testing.T) {
	for b := range 256 {
		letter := string([]byte{byte(b)})
		kind := slices.Index(letters, letter) + 1
		if kind == 0 {
			refused(t, letter, 0, api.ErrForm)
			refused(t, letter+"0-1", 0, api.ErrForm)
			refused(t, "P0-1("+letter+"0-1)", 5, api.ErrForm)
			refused(t, "P0-1(W0-1 "+letter+"1-1)", 10, api.ErrForm)
			continue
		}
		refused(t, letter, 1, api.ErrForm)
		s := letter + "0-1(" + letter + "0-1 " + letter + "1-1)"
		want := []api.Node{{Kind: kind, To: 1, Up: -1}, {Kind: kind, To: 1}, {Kind: kind, From: 1, To: 1}}
		if got, at, e := tree.Read(s); !slices.Equal(got, want) || at != 0 || e != api.OK {
			t.Errorf("%s: %v, %d, %d", s, got, at, e)
		}
	}
	if len(letters) != 18 {
		t.Errorf("%d letters", len(letters))
	}
}

// spelling is how nodes are spelled; ! stands for a node's kids.
var (
	spelling = "[" + strings.Join(letters, "") + "](?:0|[1-9][0-9]{0,6})-(?:0|[1-9][0-9]{0,6})!?"
	whole    = regexp.MustCompile("^" + spelling + "$")
	bracket  = regexp.MustCompile(`\(` + spelling + "(?: " + spelling + `)*\)`)
	places   = regexp.MustCompile("[A-Z]([0-9]+)-([0-9]+)")
)

// formed tells whether a text is of the form: brackets are put away, the innermost first, till one node is left.
func formed(s string) bool {
	if strings.Contains(s, "!") {
		return false
	}
	for bracket.MatchString(s) {
		s = bracket.ReplaceAllString(s, "!")
	}
	return whole.MatchString(s)
}

// goesOn tells whether some tree's text begins as a text does: if so, the rest of a node and some brackets are enough.
func goesOn(s string) bool {
	open := strings.Count(s, "(") - strings.Count(s, ")")
	for _, rest := range []string{"", "0", "-0", "0-0", "P0-0"} {
		if open >= 0 && formed(s+rest+strings.Repeat(")", open)) {
			return true
		}
	}
	return false
}

// noded are the nodes of a text of the form: a node's Up is the last one ahead of it within one bracket less.
func noded(s string) (l []api.Node) {
	last := map[int]int{-1: -1}
	for _, m := range places.FindAllStringSubmatchIndex(s, -1) {
		deep := strings.Count(s[:m[0]], "(") - strings.Count(s[:m[0]], ")")
		from, _ := strconv.Atoi(s[m[2]:m[3]])
		to, _ := strconv.Atoi(s[m[4]:m[5]])
		last[deep] = len(l)
		l = append(l, api.Node{Kind: slices.Index(letters, s[m[0]:m[0]+1]) + 1, From: from, To: to, Up: last[deep-1]})
	}
	return l
}

// readAs checks how a text is read with which some tree's text begins; false: it is otherwise.
func readAs(t *testing.T, s string) bool {
	t.Helper()
	if !formed(s) {
		return refused(t, s, len(s), api.ErrForm)
	}
	want := noded(s)
	if !right(want, want[0].To) {
		return refused(t, s, 0, api.ErrState)
	}
	if l, at, e := tree.Read(s); !slices.Equal(l, want) || at != 0 || e != api.OK {
		t.Errorf("Read(%q): %v, %d, %d, not %v", s, l, at, e, want)
		return false
	}
	return true
}

// follow checks how all texts are read that are one byte longer than a beginning of a tree's text, and than those of them that are one, too, up to so many more bytes: all bytes for the first few, those of few trees then. How many beginnings were gone on from is told; -1: something is otherwise.
func follow(t *testing.T, s string, all, most int) int {
	t.Helper()
	const few = "PW019-( )"
	count := 1
	for b := range 256 {
		byFew := strings.IndexByte(few, byte(b)) >= 0
		next := s + string([]byte{byte(b)})
		switch goes := (byFew || all > 0) && goesOn(next); {
		case !byFew && all <= 0:
		case !goes && !(refused(t, next, len(s), api.ErrForm) && refused(t, next+" W0-0)", len(s), api.ErrForm)):
			return -1
		case goes && !readAs(t, next):
			return -1
		case goes && byFew && most > 1:
			n := follow(t, next, all-1, most-1)
			if n < 0 {
				return -1
			}
			count += n
		}
	}
	return count
}

// P11.3, P11.4: each byte behind the beginnings of trees' texts.
func TestGoesOn(t *testing.T) {
	for _, c := range []struct {
		s         string
		all, most int
	}{
		{"", 6, 10}, {"P0-0", 4, 8}, {"P0-1(W0-1", 4, 8}, {"P0-1(W0-1 ", 3, 7}, {"P0-1(W0-1(W0-1", 3, 7}, {"P0-1(M0-0(M0-0(M0-0)", 3, 7},
		{"P12345", 3, 6}, {"P0-12345", 4, 7}, {"P0-99999(W99999", 3, 7}, {"P0-99999(W0-99998", 3, 7},
	} {
		if !goesOn(c.s) {
			t.Fatalf("%q doesn't go on", c.s)
		}
		if n := follow(t, c.s, c.all, c.most); n < 100 {
			t.Errorf("%q: %d texts alone", c.s, n)
		}
	}
}

// P11.3, P11.4: texts of trees as they are grown, right and with one thing turned, and with one byte more, less or another.
func TestSpoilt(t *testing.T) {
	c := chance(4)
	states, forms := 0, 0
	for range 400 {
		l := c.grown(1+c.below(12), c.below(25), 1+c.below(4))
		i := c.below(len(l))
		for _, field := range []*int{&l[i].From, &l[i].To} {
			was := *field
			*field = max(was+c.below(7)-3, 0)
			if !readAs(t, text(l, 0)) {
				return
			}
			if !right(l, l[0].To) {
				states++
			}
			*field = was
		}
		s := text(l, 0)
		for range 10 {
			at, b := c.below(len(s)+1), "PLM0129-() x"[c.below(12):][:1]
			for _, other := range []string{s[:at] + b + s[at:], s[:at] + s[min(at+1, len(s)):], s[:at] + b + s[min(at+1, len(s)):], s[:at]} {
				n := 0
				for n < len(other) && goesOn(other[:n+1]) {
					n++
				}
				if n == len(other) && !readAs(t, other) || n < len(other) && !refused(t, other, n, api.ErrForm) {
					return
				}
				if n < len(other) {
					forms++
				}
			}
		}
	}
	if states < 100 || forms < 1000 {
		t.Errorf("%d and %d wrong texts alone", states, forms)
	}
}

// deep is a path of so many nodes, each over all leaves.
func deep(nodes, leaves int) (l []api.Node) {
	for i := range nodes {
		l = append(l, api.Node{Kind: i%18 + 1, To: leaves, Up: i - 1})
	}
	return l
}

// wide is a first node, and so many less one right below it, each over a leaf.
func wide(nodes int) []api.Node {
	l := []api.Node{{Kind: 1, To: nodes - 1, Up: -1}}
	for i := range nodes - 1 {
		l = append(l, api.Node{Kind: 7, From: i, To: i + 1})
	}
	return l
}

// comb is a path of nodes, each with a leaf of its own ahead of what is below it, and one behind that.
func comb(path int) (l []api.Node) {
	leaves := 2 * path
	for i := range path {
		l = append(l, api.Node{Kind: 2, From: i, To: leaves - i, Up: max(2*i-2, -1)}, api.Node{Kind: 7, From: i, To: i + 1, Up: 2 * i})
	}
	for i := range path {
		l = append(l, api.Node{Kind: 7, From: path + i, To: path + i + 1, Up: 2 * (path - 1 - i)})
	}
	return l
}

// P11.1 to P11.4, P1: small trees that are as deep as they have nodes, as wide, and both.
func TestShapes(t *testing.T) {
	for n := 1; n <= 40; n++ {
		for _, l := range [][]api.Node{deep(n, 0), deep(n, 3), wide(n), comb(n)} {
			if !told(t, l) {
				return
			}
		}
	}
}

// P11.1 to P11.4, P1: great trees, deep, wide, and both.
func TestGreat(t *testing.T) {
	const n = 1 << 20
	d, w, c := deep(n, 5), wide(n), comb(n/4)
	if a := tree.After(d); len(a) != n || a[0] != n-1 || a[n-1] != 0 || !slices.IsSortedFunc(a, func(x, y int) int { return y - x }) {
		t.Errorf("of the deep one: %v", a[:10])
	}
	if k, p := tree.Kids(d, n/2), tree.Path(d, n-1); !slices.Equal(k, []int{n/2 + 1}) || len(p) != n || p[0] != 0 || p[n-1] != n-1 || !slices.IsSorted(p) {
		t.Errorf("of the deep one: %v, %d", k, len(p))
	}
	if e, c := tree.End(d, 1), tree.Cover(d, 4); e != n || c != n-1 {
		t.Errorf("of the deep one: %d, %d", e, c)
	}
	if s := tree.Sub(d, n/2); len(s) != n/2 || !tree.Check(s, 5) {
		t.Errorf("of the deep one: %d nodes below the midst", len(s))
	}
	if a := tree.After(w); len(a) != n || a[0] != 1 || a[n-2] != n-1 || a[n-1] != 0 || !slices.IsSorted(a[:n-1]) {
		t.Errorf("of the wide one: %v", a[:10])
	}
	if k, p := tree.Kids(w, 0), tree.Path(w, n-1); len(k) != n-1 || k[0] != 1 || !slices.IsSorted(k) || !slices.Equal(p, []int{0, n - 1}) {
		t.Errorf("of the wide one: %d, %v", len(k), p)
	}
	if c := tree.Cover(w, n/2); c != n/2+1 {
		t.Errorf("of the wide one: %d", c)
	}
	if k, p := tree.Kids(c, n/2-2), tree.Path(c, len(c)-1); !slices.Equal(k, []int{n/2 - 1, n / 2}) || !slices.Equal(p, []int{0, len(c) - 1}) {
		t.Errorf("of the comb: %v, %v", k, p)
	}
	for _, l := range [][]api.Node{d, w, c} {
		if !tree.Check(l, l[0].To) || tree.Check(l, l[0].To+1) {
			t.Errorf("of %d nodes over %d leaves: not right", len(l), l[0].To)
		}
		s := tree.Show(l)
		if got, at, e := tree.Read(s); !slices.Equal(got, l) || at != 0 || e != api.OK {
			t.Errorf("of %d bytes: %d, %d", len(s), at, e)
		}
		refused(t, s[:len(s)-1], len(s)-1, api.ErrForm)
		refused(t, s+")", len(s), api.ErrForm)
		l[len(l)-1].To++
		if l[len(l)-1].From--; tree.Check(l, l[0].To) {
			t.Errorf("of %d nodes: right, though the last one isn't", len(l))
		}
	}
	refused(t, strings.Repeat("P0-0(", n), 5*n, api.ErrForm)
	refused(t, strings.Repeat("P0-0(", n)+"P0-0"+strings.Repeat(")", n-1), 6*n+3, api.ErrForm)
	refused(t, "P0-0("+strings.Repeat("M0-0 ", n), 5*n+5, api.ErrForm)
	refused(t, "P0-"+strings.Repeat("9", n), 10, api.ErrForm)
}

// P1: rows whose Ups lead round, or anywhere.
func TestRound(t *testing.T) {
	c := chance(7)
	for range 20000 {
		l := make([]api.Node, 1+c.below(6))
		for i := range l {
			numbers := append([]int{-1, 0, 1, 2, 3, 4, 5, 6, 7, 18, 19}, far...)
			l[i] = api.Node{Kind: 1 + c.below(19), From: numbers[c.below(len(numbers))], To: numbers[c.below(len(numbers))], Up: numbers[c.below(len(numbers))]}
		}
		if c.below(2) == 0 {
			l[0] = api.Node{Kind: 1, To: c.below(4), Up: -1}
		}
		if !checked(t, l) {
			return
		}
		for _, i := range far {
			if k, p, e, s := tree.Kids(l, i), tree.Path(l, i), tree.End(l, i), tree.Sub(l, i); len(k) > 0 || len(p) > 0 || e != 0 || len(s) > 0 {
				t.Errorf("%v: of %d, which is no node: %v, %v, %d, %v", l, i, k, p, e, s)
				return
			}
			tree.Cover(l, i)
			tree.Hang(l, l, i)
		}
	}
}

// stray is what stands behind a row in its memory.
var stray = api.Node{Kind: 5, From: -5, To: 50, Up: 3}

// lent is a row with such behind it in its memory.
func lent(l []api.Node) []api.Node {
	return append(slices.Clone(l), stray, stray, stray, stray, stray, stray, stray, stray)[:len(l)]
}

// kept tells whether a row that was lent is as it was, and what is behind it, too.
func kept(was, now []api.Node) bool {
	all := now[:len(now)+8]
	for _, n := range all[len(now):] {
		if n != stray {
			return false
		}
	}
	return slices.Equal(was, now)
}

// fill writes one thing over a whole row, and behind it as far as its memory goes.
func fill[T any](l []T, x T) {
	l = l[:cap(l)]
	for i := range l {
		l[i] = x
	}
}

// R4: what is handed in isn't changed, nor what lies behind it; what is answered is new.
func TestMemory(t *testing.T) {
	for _, s := range []string{sample, "P0-0", "W0-2", "P0-2(W0-1 W1-2)", "P0-2(L0-2(A0-2))"} {
		was, _, _ := tree.Read(s)
		want := slices.Clone(was)
		fill(was, stray)
		l, hangs := lent(want), lent(want)
		for i := -1; i <= len(l); i++ {
			for range 2 {
				if i >= 0 && i < len(l) && !nodeTold(t, l, i) {
					return
				}
				if got := tree.Hang(l, hangs, i); !slices.Equal(got, hung(want, want, i)) {
					t.Errorf("%s: hung by %d: %v", s, i, got)
				}
				fill(tree.Kids(l, i), -7)
				fill(tree.Path(l, i), -7)
				fill(tree.Sub(l, i), stray)
				fill(tree.Hang(l, hangs, i), stray)
				fill(tree.Hang(l, nil, i), stray)
				fill(tree.Hang(l, hangs[:0], i), stray)
				fill(tree.Hang(l[:0], hangs, i), stray)
				fill(tree.Hang(l, l, i), stray)
				fill(tree.Hang(l, l[1:], i), stray)
				fill(tree.Hang(l[:1], l, i), stray)
				tree.Cover(l, i)
				tree.End(l, i)
				tree.Check(l, i)
				if !kept(want, l) || !kept(want, hangs) {
					t.Fatalf("%s: changed at %d: %v, %v", s, i, l, hangs)
				}
			}
		}
		fill(tree.After(l), -7)
		if got := tree.After(l); !slices.Equal(got, after(want, 0)) || tree.Show(l) != s || !kept(want, l) {
			t.Errorf("%s: %v, %v", s, got, l)
		}
		if got, _, _ := tree.Read(s); !slices.Equal(got, want) {
			t.Errorf("%s: %v", s, got)
		}
	}
}
