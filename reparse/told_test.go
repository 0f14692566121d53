package reparse_test

import (
	"slices"
	"strconv"
	"testing"

	"quillwort/api"
	"quillwort/parse"
	"quillwort/reparse"
	"quillwort/tree"
)

// row is leaves, and their tree as layer 13 makes it of them alone.
type row struct {
	leaves []api.Leaf
	nodes  []api.Node
}

// of is a text's row.
func of(s string) row {
	leaves, nodes := parse.Of(s)
	return row{leaves, nodes}
}

// made is the row of leaves.
func made(leaves []api.Leaf) row {
	return row{leaves, parse.Parse(leaves)}
}

// topsOf is the numbers of the top commands, by the chapter's words.
func topsOf(l []api.Node) (all []int) {
	for _, i := range tree.Kids(l, 0) {
		if l[i].Kind != api.NodeList {
			continue
		}
		for _, k := range tree.Kids(l, i) {
			if l[k].Kind == api.NodeAndOr {
				all = append(all, k)
			}
		}
	}
	return all
}

// similar tells whether two leaves have the same Kind and Text.
func similar(a, b api.Leaf) bool {
	return a.Kind == b.Kind && a.Text == b.Text
}

// headOf is how many first leaves of two rows are alike.
func headOf(a, b []api.Leaf) int {
	for n := 0; ; n++ {
		if n == len(a) || n == len(b) || !similar(a[n], b[n]) {
			return n
		}
	}
}

// tailOf is how many last ones are, of what is left behind the head.
func tailOf(a, b []api.Leaf) int {
	head := headOf(a, b)
	a, b = slices.Clone(a[head:]), slices.Clone(b[head:])
	slices.Reverse(a)
	slices.Reverse(b)
	return headOf(a, b)
}

// takenOver is how many top commands of the new row's tree are, by the chapter's words.
func takenOver(old, now row) (n int) {
	head, tail := headOf(old.leaves, now.leaves), tailOf(old.leaves, now.leaves)
	was := map[int]api.Node{} // the old top commands, by where they begin
	for _, i := range topsOf(old.nodes) {
		was[old.nodes[i].From] = old.nodes[i]
	}
	for _, i := range topsOf(now.nodes) {
		from := now.nodes[i].From
		o, there := was[from]
		_, asFar := was[len(old.leaves)-(len(now.leaves)-from)]
		if there && o.To <= head-2 || from >= len(now.leaves)-tail && asFar {
			n++
		}
	}
	return n
}

// spelled is a row's leaves as text.
func spelled(r row) (s string) {
	for _, f := range r.leaves[:min(len(r.leaves), 60)] {
		s += strconv.Itoa(f.Kind) + strconv.Quote(f.Text) + " "
	}
	return s + "(" + strconv.Itoa(len(r.leaves)) + ")"
}

// shown is a tree as text; of a great one, how great it is.
func shown(l []api.Node) string {
	if len(l) > 300 {
		return strconv.Itoa(len(l)) + " nodes"
	}
	if s := tree.Show(l); s != "" {
		return s
	}
	return "no right tree, of " + strconv.Itoa(len(l)) + " nodes"
}

// updated checks what Update makes of one row's tree for another row; false: it is otherwise.
func updated(t *testing.T, old, now row) bool {
	t.Helper()
	l, n := reparse.Update(old.leaves, old.nodes, now.leaves)
	if !slices.Equal(l, now.nodes) {
		t.Errorf("from %s to %s: the tree %s, not %s", spelled(old), spelled(now), shown(l), shown(now.nodes))
		return false
	}
	if want := takenOver(old, now); n != want {
		t.Errorf("from %s to %s: %d taken over, not %d", spelled(old), spelled(now), n, want)
		return false
	}
	return true
}
