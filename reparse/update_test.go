package reparse_test

import (
	"math"
	"math/rand/v2"
	"slices"
	"strings"
	"testing"

	"quillwort/api"
	"quillwort/parse"
	"quillwort/reparse"
	"quillwort/tree"
)

// TestTops: P14.1 for trees of texts and drawn ones.
func TestTops(t *testing.T) {
	for _, c := range []struct {
		s    string
		want []int
	}{
		{"", nil},
		{"\n\n", nil},
		{")", nil},
		{"# a; b", nil},
		{"fi; then", nil},
		{"a", []int{2}},
		{"a; b", []int{2, 6}},
		{"a &\nb c; d\n", []int{2, 6, 11}},
		{"a && b | c", []int{2}},
		{"{ a; b; }", []int{2}},
		{"(a; b); c", []int{2, 14}},
		{"if a; then b; fi\nc", []int{2, 15}},
		{"x=$(a; b); \"`c; d`\"", []int{2, 6}},
		{"a ) b", []int{2, 8}},
		{") a; b ) ; c", []int{3, 7, 14}},
		{"! ) a", []int{2, 7}},
		{"cat <<E; b\na; c\nE\nc", []int{2, 8, 12}},
	} {
		if l := reparse.Tops(of(c.s).nodes); !slices.Equal(l, c.want) {
			t.Errorf("%q, %s: %v, not %v", c.s, shown(of(c.s).nodes), l, c.want)
		}
	}
	for _, c := range []struct {
		s    string
		want []int
	}{
		{"P0-0", nil},
		{"P0-1(A0-1)", nil}, // right below the first node
		{"L0-1(A0-1)", nil}, // the List is the first node itself
		{"L0-2(L0-2(A0-1 A1-2))", []int{2, 3}},
		{"S0-1(L0-1(A0-1))", []int{2}},
		{"P0-1(L0-1(L0-1(A0-1)))", nil}, // the List is farther down
		{"P0-2(L0-2(A0-1(A0-1) I1-2(A1-2)))", []int{2}},
		{"P0-2(L0-2(I0-1 A1-2 W2-2))", []int{3}},
		{"P0-2(A0-1(L0-1(A0-1)) L1-2(A1-2))", []int{5}},
		{"P0-2(L0-0 L0-0(A0-0 A0-0) E0-1 L1-2(A2-2))", []int{3, 4, 7}},
		{"A0-1(L0-1(A0-1) A1-1)", []int{2}},
		{"P0-2(I0-1(A0-1) L1-2(A1-2))", []int{4}}, // what is above it is no List
	} {
		l, _, bad := tree.Read(c.s)
		if bad != api.OK {
			t.Fatalf("%s: %d", c.s, bad)
		}
		if got := reparse.Tops(l); !slices.Equal(got, c.want) || !slices.Equal(got, topsOf(l)) {
			t.Errorf("%s: %v, not %v", c.s, got, c.want)
		}
	}
}

// TestTaken: P14.1, how many are taken over, at each edge of the head and of the tail.
func TestTaken(t *testing.T) {
	for _, c := range []struct {
		old, now string
		want     int
	}{
		{"a; b; c", "x; b; c", 2},
		{"a; b; c", "a; b; x", 1},
		{"a; b; c", "a; x; c", 1},
		{"a; b; c", "x; y; z", 0},
		// the same rows: all of them is the head
		{"", "", 0},
		{"a", "a", 0},
		{"a\n", "a\n", 0},
		{"a\n\n", "a\n\n", 1},
		{"a; b; c", "a; b; c", 2},
		{"a; b; c\n\n", "  a ;b ;  c\n\n# d", 3},
		// one of them is empty, or the other one's beginning, or its end
		{"", "a; b", 0},
		{"a; b", "", 0},
		{"a\n\nb", "a\n\nb; c", 1},
		{"a\n\nb; c", "a\n\nb", 1},
		{"b; c", "a\n\nb; c", 2},
		{"a\n\nb; c", "b; c", 2},
		{"a; b", "a; b\n", 1},
		{"a; b", "\na; b", 2},
		// head and tail would overlap
		{"a\na\na", "a\na", 1},
		{"a\na", "a\na\na", 1},
		{"a;a;a;a", "a;a;a", 2},
		{"\n\n\na", "\n\na", 1},
		// a command's end, and the head's
		{"a;\nb", "a;\nc", 1}, // two ahead
		{"a;\n\nb", "a;\n\nc", 1},
		{"a; b", "a; c", 0}, // one ahead
		{"a; b", "a & b", 1},
		{"a", "a b", 0}, // at it
		{"a b", "a", 0}, // behind it
		{"a b c", "a b d", 0},
		{"a | b\n\nc", "a | b\n\nd", 1},
		{"{ a; b; }\n\nc", "{ a; b; }\n\n(c)", 1},
		{"{ a; b; }\n\nc", "{ a; d; }\n\nc", 1},
		// a command's beginning, and the tail's
		{"x; a", "x\na", 1},     // at it
		{"x; b a", "x; c a", 0}, // one ahead
		{"x;\na", "x&\na", 1},   // behind it
		{"x; a b", "y; a b", 1},
		{"x; { a; }", "x; { b; }", 1},
		// the old tree has none there
		{"{ a; b", "a; b", 0},
		{"a; b", "{ a; b", 0},
		{"x a; b", "a; b", 1},
		{"a; b", "x a; b", 1},
		{"(a; b); c", "a; b); c", 1},
		{"a; b); c", "(a; b); c", 1},
		{"if a; b; fi; c", "a; b; fi; c", 1},
		{"a &&\nb; c", "a ||\nb; c", 1},
		{"a &&\nb; c", "a ;\nb; c", 1},
		{"a ;\nb; c", "a &&\nb; c", 1},
		// places alone are other ones
		{"cat <<E\na\nE\nb; c", "cat  <<E\na\nb\nE\nb;  c", 2},
		{"a; 'b c'; d", "a; 'b d'; d", 1},
		{"a #b\n\nc; d", "a #\n\nc; e", 1},
	} {
		old, now := of(c.old), of(c.now)
		if _, n := reparse.Update(old.leaves, old.nodes, now.leaves); n != c.want {
			t.Errorf("from %q to %q: %d taken over, not %d", c.old, c.now, n, c.want)
		}
		updated(t, old, now)
	}
}

// TestAlike: leaves are alike by Kind and Text, not by one of them, nor by places.
func TestAlike(t *testing.T) {
	x, semi, n := api.Leaf{Kind: api.TokWord, Text: "2"}, api.Leaf{Kind: api.TokOper, Text: ";"}, api.Leaf{Kind: api.TokNewline, Text: "\n"}
	number, other := api.Leaf{Kind: api.TokNumber, Text: "2"}, api.Leaf{Kind: 99, Text: ";"}
	far := api.Leaf{Kind: api.TokWord, Text: "2", From: math.MaxInt, To: math.MinInt}
	for _, c := range []struct {
		old, now []api.Leaf
		want     int
	}{
		{[]api.Leaf{x, n, x, semi, x}, []api.Leaf{x, n, x, semi, x}, 2},
		{[]api.Leaf{x, n, x, semi, x}, []api.Leaf{far, n, far, semi, far}, 2},
		{[]api.Leaf{x, n, x, semi, x}, []api.Leaf{number, n, x, semi, x}, 2},
		{[]api.Leaf{x, n, number, semi, x}, []api.Leaf{x, n, x, semi, x}, 1},
		{[]api.Leaf{x, n, n, x, semi}, []api.Leaf{x, n, n, x, other}, 1},
		{[]api.Leaf{x, n, x, semi}, []api.Leaf{x, n, x, other}, 1},
		{[]api.Leaf{semi, x}, []api.Leaf{other, x}, 1},
		{[]api.Leaf{other, x}, []api.Leaf{other, other, x}, 1},
		{[]api.Leaf{x, semi, x}, []api.Leaf{x, n, x}, 1},
	} {
		old, now := made(c.old), made(c.now)
		if _, got := reparse.Update(old.leaves, old.nodes, now.leaves); got != c.want {
			t.Errorf("from %s to %s: %d taken over, not %d", spelled(old), spelled(now), got, c.want)
		}
		updated(t, old, now)
	}
}

// leafOf is a leaf of each sign of layer 12, and of some that mean nothing.
var leafOf = map[byte]api.Leaf{
	'n': {Kind: api.TokNewline, Text: "\n"}, '#': {Kind: api.TokNumber, Text: "2"},
	';': {Kind: api.TokOper, Text: ";"}, '&': {Kind: api.TokOper, Text: "&"}, '|': {Kind: api.TokOper, Text: "|"}, '(': {Kind: api.TokOper, Text: "("}, ')': {Kind: api.TokOper, Text: ")"},
	'a': {Kind: api.TokOper, Text: "&&"}, 'o': {Kind: api.TokOper, Text: "||"}, 'y': {Kind: api.TokOper, Text: ";;"}, '<': {Kind: api.TokOper, Text: ">>"}, 'h': {Kind: api.TokOper, Text: "<<-"},
	'!': {Kind: api.TokWord, Text: "!"}, '{': {Kind: api.TokWord, Text: "{"}, '}': {Kind: api.TokWord, Text: "}"},
	'i': {Kind: api.TokWord, Text: "if"}, 't': {Kind: api.TokWord, Text: "then"}, 'e': {Kind: api.TokWord, Text: "elif"}, 'l': {Kind: api.TokWord, Text: "else"}, 'f': {Kind: api.TokWord, Text: "fi"},
	'w': {Kind: api.TokWord, Text: "until"}, 'd': {Kind: api.TokWord, Text: "do"}, 'g': {Kind: api.TokWord, Text: "done"}, 'r': {Kind: api.TokWord, Text: "for"}, 'k': {Kind: api.TokWord, Text: "in"},
	'c': {Kind: api.TokWord, Text: "case"}, 'z': {Kind: api.TokWord, Text: "esac"},
	'x': {Kind: api.TokWord, Text: "x"}, 'X': {Kind: api.TokWord, Text: "'x"}, '=': {Kind: api.TokWord, Text: "x=1"},
	'?': {Kind: api.TokHere, Text: "x\n"}, '0': {}, '-': {Kind: -1, Text: ";"}, '9': {Kind: math.MaxInt, Text: "if"}, 'O': {Kind: api.TokOper, Text: "no operator"}, 'N': {Kind: api.TokNewline, Text: "no newline"},
}

// signs are all that are in leafOf.
const signs = "n#;&|()aoy<h!{}itelfwdgrkczxX=?0-9ON"

// ofSigns is the row of leaves of these signs, at the places that they have where one stands behind the other.
func ofSigns(s string) row {
	var leaves []api.Leaf
	at := 0
	for i := range len(s) {
		f := leafOf[s[i]]
		f.From, f.To = at, at+len(f.Text)
		at = f.To
		leaves = append(leaves, f)
	}
	return made(leaves)
}

// rowsUpTo are all rows of up to so many leaves of these signs.
func rowsUpTo(most int, signs string) (all []row) {
	last := []string{""}
	for n := 0; ; n++ {
		for _, s := range last {
			all = append(all, ofSigns(s))
		}
		if n == most {
			return all
		}
		var next []string
		for _, s := range last {
			for i := range len(signs) {
				next = append(next, s+signs[i:i+1])
			}
		}
		last = next
	}
}

// TestPairs: P14.1 for every pair of short rows.
func TestPairs(t *testing.T) {
	if len(leafOf) != len(signs) {
		t.Fatal(len(leafOf), len(signs))
	}
	for _, c := range []struct {
		most  int
		signs string
	}{
		{2, signs}, {5, "xn;"}, {4, "xn;)"}, {4, "x;()"}, {4, "xn{}"}, {4, "x<#;"}, {4, "x&!|"}, {4, "xan)"}, {4, "x=n<"}, {4, "xn?O"}, {3, "xnitf;"}, {3, "xrkdgn"}, {3, "xwdgn;"}, {3, "xckz()y"}, {3, "x;hn#X"},
	} {
		all := rowsUpTo(c.most, c.signs)
		for _, old := range all {
			for _, now := range all {
				if !updated(t, old, now) {
					return
				}
			}
		}
	}
}

// pieces are what texts are put together of.
var pieces = []string{
	"a", "b", "c d", "x=1", "x=1 a", ">f", "a 2>&1", "2>", "! a", "a | b", "a |", "a && b", "a ||\n", "{ a; b; }", "{ a", "}", "(a\nb) >f", "(", ")", "if a; then b; fi", "if a; then", "elif b", "else", "fi",
	"while a; do b; done", "do", "done", "for x in a b; do c; done", "for x", "in", "case a in (b|c) d;; e) f; esac", "case a in", "b) c;;", "esac", "f() { a; }", "f()", "$(a; b)", "\"$(a", "'", "\"", "`", "# c", "<<E", "<<E\na; b\nE", "E", "\\",
}

// seams are what stands between them.
var seams = []string{";", ";", "\n", "\n", "\n\n", " ", " ", "&", ";;", "", " ; \n # c\n", "|", "&&"}

// drawnText is so many pieces with seams between them.
func drawnText(r *rand.Rand, n int) string {
	var w strings.Builder
	for range n {
		w.WriteString(pieces[r.IntN(len(pieces))])
		w.WriteString(seams[r.IntN(len(seams))])
	}
	return w.String()
}

// TestTexts: P14.1 for every pair of texts of a piece or two, and for texts of which a part is another one.
func TestTexts(t *testing.T) {
	var all []row
	for _, s := range pieces {
		all = append(all, of(s), of(s+"; a\n"), of("b\n"+s), of("a; b\n\n"+s+"\n\nc; d"))
	}
	for _, old := range all {
		for _, now := range all {
			if !updated(t, old, now) {
				return
			}
		}
	}
	r := rand.New(rand.NewPCG(14, 1))
	for range 20000 {
		s := drawnText(r, 1+r.IntN(12))
		from := r.IntN(len(s) + 1)
		to := from + r.IntN(min(len(s)-from, 8)+1)
		now := s[:from] + drawnText(r, r.IntN(3)) + s[to:]
		if !updated(t, of(s), of(now)) || !updated(t, of(now), of(s)) {
			t.Fatalf("%q, %q", s, now)
		}
	}
}

// TestNearRows: P14.1 for long rows of leaves, also such as no text has, of which a part is another one.
func TestNearRows(t *testing.T) {
	r := rand.New(rand.NewPCG(14, 2))
	draw := func(n int, of string) (s string) {
		for range n {
			s += string(of[r.IntN(len(of))])
		}
		return s
	}
	for range 60000 {
		of := signs
		if r.IntN(2) == 0 {
			of = "xxxnn;;&|a(){}<#it" // more of what is a command often
		}
		s := draw(r.IntN(25), of)
		from := r.IntN(len(s) + 1)
		to := from + r.IntN(min(len(s)-from, 4)+1)
		now := s[:from] + draw(r.IntN(4), of) + s[to:]
		if !updated(t, ofSigns(s), ofSigns(now)) {
			t.Fatal(s, now)
		}
	}
}

// TestDeep: P14.1 where a command is as deep as may be, and deeper.
func TestDeep(t *testing.T) {
	for _, n := range []int{199, 200, 201, 300} {
		in, out := strings.Repeat("(", n), strings.Repeat(")", n)
		for _, c := range [][2]string{{"", "a;"}, {"a\n\n", "a\n\nb;"}, {"a;", "b;"}, {"(", ""}, {"", "("}, {"(", "{\n"}} {
			for _, end := range []string{"", "\n\nb", ";c"} {
				updated(t, of(c[0]+in+"a"+out+end), of(c[1]+in+"a"+out+end))
				updated(t, of(c[0]+in+"a"+out+end), of(c[0]+in+"b"+out+end))
			}
		}
	}
}

// TestGreatRows: P14.1 for great rows.
func TestGreatRows(t *testing.T) {
	for _, s := range []string{"a\n", "a;", "(", "a ", ")", "\n", "a )\n", "a|", "{ a;}\n", "<", "a&&\n", "f()", "if a;then "} {
		great := of(strings.Repeat(s, api.MaxText/128/len(s)))
		for _, now := range []string{"", "b", ";", "\n", ")"} {
			other := of(now)
			half := len(great.leaves) / 2
			updated(t, great, made(slices.Concat(great.leaves[:half], other.leaves, great.leaves[half:])))
			updated(t, great, made(slices.Concat(other.leaves, great.leaves)))
			updated(t, great, made(slices.Concat(great.leaves, other.leaves)))
			updated(t, great, other)
			updated(t, other, great)
		}
	}
}

// TestOtherTrees: P1, where l isn't the tree of old: it ends, and old alone says how great the answer is.
func TestOtherTrees(t *testing.T) {
	rows := []row{of(""), of("a"), of("a; b\n\nc"), of("{ a; b; }\n\n(c)\nd; e"), of(")\n\n)\n\n"), ofSigns("#09-x;nnx")}
	var trees [][]api.Node
	for _, s := range []string{
		"P0-5(L0-5(A0-0 A0-0 A0-1 A1-5))", "P0-5(L0-5(A0-5))", "P0-5(L0-0(A0-0) L1-1(A1-1) L2-2(A2-2) L3-5(A4-4))", "P0-5(L0-1(A0-1(P0-1)) E1-2 L2-3(A2-3) L3-4(A3-4) L4-5(A4-5))", "L0-5(L0-5(A0-1 A1-2 A2-3 A3-4 A4-5))", "P0-5", "P0-0", "P0-0(L0-0(A0-0))", "P0-1(L0-1(A0-1))",
	} {
		l, _, bad := tree.Read(s)
		if bad != api.OK {
			t.Fatal(s, bad)
		}
		trees = append(trees, l)
	}
	list, andOr := api.Node{Kind: api.NodeList, To: 5}, api.Node{Kind: api.NodeAndOr, Up: 1}
	for _, from := range []int{math.MinInt, -1, 0, 1, 4, 5, 6, math.MaxInt} {
		for _, to := range []int{math.MinInt, -1, 0, 1, 4, 5, 6, math.MaxInt} {
			one, first := andOr, api.Node{Kind: api.NodeProgram, From: from, To: to, Up: -1}
			one.From, one.To = from, to
			trees = append(trees, []api.Node{{Kind: api.NodeProgram, To: 5, Up: -1}, list, one}, []api.Node{first, list, andOr})
		}
	}
	for _, up := range []int{math.MinInt, -2, -1, 0, 1, 2, 3, math.MaxInt} {
		trees = append(trees, []api.Node{{Kind: api.NodeProgram, To: 5, Up: up}, {Kind: api.NodeList, To: 5, Up: up}, {Kind: api.NodeAndOr, To: 5, Up: up}}, []api.Node{{Kind: api.NodeAndOr, Up: up}})
		trees = append(trees, []api.Node{{Kind: api.NodeList, To: 5, Up: up}, {Kind: api.NodeList, To: 5}, {Kind: up, To: 5, Up: 1}, {Kind: api.NodeAndOr, To: 5, Up: 1}})
	}
	r := rand.New(rand.NewPCG(14, 3))
	for range 3000 {
		var l []api.Node
		for i := range r.IntN(9) {
			l = append(l, api.Node{Kind: 1 + r.IntN(4), From: r.IntN(6), To: r.IntN(8), Up: r.IntN(i+2) - 1})
		}
		trees = append(trees, l)
	}
	for _, l := range trees {
		reparse.Tops(l)
		for _, old := range rows {
			for _, now := range rows {
				reparse.Update(old.leaves, l, now.leaves)
			}
		}
	}
	for _, old := range rows {
		for _, now := range rows { // without a tree, none is taken over
			if l, n := reparse.Update(old.leaves, nil, now.leaves); !slices.Equal(l, now.nodes) || n != 0 {
				t.Errorf("%s, %d", shown(l), n)
			}
		}
	}
}

// lend is a row of which more lies behind, in the same memory, and what shows later whether any of it was written to.
func lend[T comparable](l []T, behind ...T) (lent []T, kept func() bool) {
	all := slices.Concat(l, behind)
	was := slices.Clone(all)
	return all[:len(l)], func() bool { return slices.Equal(all, was) }
}

// TestLentRows: R4 of Tops and Update.
func TestLentRows(t *testing.T) {
	stray := []api.Leaf{leafOf[';'], leafOf['x'], leafOf['n']}
	strayNode := []api.Node{{Kind: api.NodeAndOr, Up: 1}, {Kind: api.NodeList}, {Kind: api.NodeAndOr}}
	for _, c := range [][2]string{{"", ""}, {"", "a"}, {"a", ""}, {"a; b; c", "x; b; c"}, {"a\n\n(b; c)\nd", "a\n\n(b; c)\nx\nd"}, {"a ) b", "a ) c ) b"}} {
		old, now := of(c[0]), of(c[1])
		lent, oldKept := lend(old.leaves, stray...)
		nodes, nodesKept := lend(old.nodes, strayNode...)
		given, nowKept := lend(now.leaves, stray...)
		for range 2 { // the second time behind an answer that was written over
			l, n := reparse.Update(lent, nodes, given)
			if !slices.Equal(l, now.nodes) || n != takenOver(old, now) {
				t.Errorf("from %q to %q: %s, %d", c[0], c[1], shown(l), n)
			}
			tops := reparse.Tops(nodes)
			if !slices.Equal(tops, topsOf(old.nodes)) {
				t.Errorf("%q: %v", c[0], tops)
			}
			wipe(l)
			wipe(tops)
			if !oldKept() || !nodesKept() || !nowKept() {
				t.Errorf("from %q to %q: what was handed in isn't as it was", c[0], c[1])
			}
		}
	}
}

// wipe writes over all memory of a row, and lets it grow.
func wipe[T any](l []T) {
	clear(l[:cap(l)])
	_ = append(l, make([]T, 3)...)
}

// TestTreeOfParse: what Update makes from no row at all is what layer 13 makes.
func TestTreeOfParse(t *testing.T) {
	r := rand.New(rand.NewPCG(14, 4))
	for range 3000 {
		leaves, _ := parse.Of(drawnText(r, r.IntN(20)))
		updated(t, row{nil, parse.Parse(nil)}, made(leaves))
	}
}
