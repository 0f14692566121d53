package rules_test

import (
	"math/rand/v2"
	"slices"
	"strings"
	"testing"

	"quillwort/api"
	"quillwort/rules"
	"quillwort/token"
	"quillwort/tree"
)

// grower makes derivations; the same ones each time.
type grower struct{ r *rand.Rand }

// newGrower is one by its seed.
func newGrower(seed uint64) *grower {
	return &grower{rand.New(rand.NewPCG(seed, 12))}
}

// of is one of these.
func of[T any](g *grower, all ...T) T {
	return all[g.r.IntN(len(all))]
}

// times is what is made from least to most times.
func (g *grower) times(least, most int, one func() part) (all []part) {
	for range least + g.r.IntN(most-least+1) {
		all = append(all, one())
	}
	return all
}

// newlines is some newlines or none.
func (g *grower) newlines() string {
	return of(g, "", "", "NL", "NL NL NL")
}

// separator is what stands between two commands.
func (g *grower) separator() string {
	return of(g, "; ", "& ", "NL ") + g.newlines()
}

// word is a Word; name one that is a name.
func (g *grower) word() part {
	return node("W", of(g, "x", "if", "a=1", "'q'", "}", "esac", "in", "$(a)", "1", "f"))
}

func (g *grower) name(texts ...string) part {
	return node("W", of(g, append(texts, "x", "f", "_9")...))
}

// redirect is a Redirect.
func (g *grower) redirect() part {
	return node("R", of(g, "", "", "#2"), of(g, "<", ">", "<<", "<<-", ">>", "<&", ">&", "<>", ">|"), g.word())
}

// redirects are some.
func (g *grower) redirects() []part {
	return g.times(0, g.r.IntN(3), g.redirect)
}

// simple is a Simple.
func (g *grower) simple() part {
	all := g.times(0, 3, func() part {
		return of(g, g.redirect, func() part { return node("X", of(g, "a=1", "b=", "_=x=y")) })()
	})
	if len(all) == 0 || g.r.IntN(2) == 0 {
		all = append(all, node("W", of(g, "x", "'if'", "ls", "1", "1=2", "ifx", "$a")))
		all = append(all, g.times(0, 3, of(g, g.word, g.redirect))...)
	}
	return node("S", all)
}

// list is a List, and whether a Word may stand right behind it.
func (g *grower) list(deep int) (p part, ends bool) {
	var all []any
	for i := range 1 + g.r.IntN(3) {
		if i > 0 {
			all = append(all, g.separator())
		}
		p, ends = g.andOr(deep)
		all = append(all, p)
	}
	if g.r.IntN(2) == 0 {
		return node("L", append(all, g.separator())...), true
	}
	return node("L", all...), ends
}

// andOr is an AndOr, and whether a Word may stand right behind it.
func (g *grower) andOr(deep int) (p part, ends bool) {
	var all []any
	for i := range 1 + g.r.IntN(2) {
		if i > 0 {
			all = append(all, of(g, "&&", "||"), g.newlines())
		}
		p, ends = g.pipe(deep)
		all = append(all, p)
	}
	return node("A", all...), ends
}

// pipe is a Pipe, and whether a Word may stand right behind it.
func (g *grower) pipe(deep int) (p part, ends bool) {
	all := []any{of(g, "", "", "!")}
	for i := range 1 + g.r.IntN(2) {
		if i > 0 {
			all = append(all, "|", g.newlines())
		}
		p := g.command(deep)
		ends = p.letter != "S"
		all = append(all, p)
	}
	return node("I", all...), ends
}

// body is newlines, if any, and a List behind which a Word may stand.
func (g *grower) body(deep int) []part {
	p, ends := g.list(deep)
	if !ends {
		p = node("L", p.parts, g.separator())
	}
	return node("L", g.newlines(), p).parts
}

// command is a command.
func (g *grower) command(deep int) part {
	if deep == 0 || g.r.IntN(3) == 0 {
		return g.simple()
	}
	if g.r.IntN(7) == 0 {
		return node("N", g.name(), "( )", g.newlines(), g.compound(deep))
	}
	return g.compound(deep)
}

// compound is one.
func (g *grower) compound(deep int) part {
	deep--
	switch g.r.IntN(6) {
	case 0:
		return node("B", "{", g.body(deep), "}", g.redirects())
	case 1:
		p, _ := g.list(deep)
		return node("U", "(", g.newlines(), p, ")", g.redirects())
	case 2:
		all := []any{"if", g.body(deep), "then", g.body(deep)}
		for range g.r.IntN(3) {
			all = append(all, "elif", g.body(deep), "then", g.body(deep))
		}
		if g.r.IntN(2) == 0 {
			all = append(all, "else", g.body(deep))
		}
		return node("F", append(all, "fi", g.redirects())...)
	case 3:
		return node("H", of(g, "while", "until"), g.body(deep), "do", g.body(deep), "done", g.redirects())
	case 4:
		return node("O", "for", g.name("in", "if"), g.values(), "do", g.body(deep), "done", g.redirects())
	}
	return g.choice(deep)
}

// values is what stands between a For's name and its body.
func (g *grower) values() []part {
	words := g.times(0, 3, g.word)
	return node("O", of(g,
		node("O", ";", g.newlines()),
		node("O", g.newlines()),
		node("O", g.newlines(), "in", words, ";", g.newlines()),
		node("O", g.newlines(), "in", words, "NL", g.newlines()),
	).parts).parts
}

// choice is a Case.
func (g *grower) choice(deep int) part {
	all := []any{"case", g.word(), g.newlines(), "in", g.newlines()}
	for range g.r.IntN(3) {
		all = append(all, g.item(deep, false), ";;", g.newlines())
	}
	if g.r.IntN(2) == 0 {
		all = append(all, g.item(deep, true))
	}
	return node("C", append(all, "esac", g.redirects())...)
}

// item is an Item; last: a Word stands right behind it.
func (g *grower) item(deep int, last bool) part {
	all := []any{"(", g.word()}
	if g.r.IntN(2) == 0 {
		all = []any{g.name("if", "}")}
	}
	for range g.r.IntN(3) {
		all = append(all, "|", g.word())
	}
	all = append(all, ")", g.newlines())
	p, ends := g.list(deep)
	switch {
	case g.r.IntN(3) == 0:
	case last && !ends:
		all = append(all, node("L", p.parts, g.separator()))
	default:
		all = append(all, p)
	}
	return node("T", all...)
}

// program is a Program.
func (g *grower) program(deep int) part {
	p, _ := g.list(deep)
	return of(g, node("P", g.newlines()), node("P", g.newlines(), p), node("P", p), node("P", p))
}

// P12.1, P12.2: derivations, as the forms make them.
func TestGrown(t *testing.T) {
	g := newGrower(1)
	var seen [19]int
	for range 1500 {
		leaves, l := whole(g.program(g.r.IntN(3)))
		if !derived(t, leaves, l) || len(l) < 200 && !checked(t, leaves, l) {
			return
		}
		for _, n := range l {
			seen[n.Kind]++
		}
	}
	for kind := api.NodeProgram; kind <= api.NodeFunction; kind++ {
		if seen[kind] < 100 {
			t.Errorf("%d of the kind %d alone", seen[kind], kind)
		}
	}
}

// writtenText is a text of leaves, where none is a here-document's operator, and whether it can be written.
func writtenText(leaves []api.Leaf) (string, bool) {
	var all []string
	for i, f := range leaves {
		if f.Kind == api.TokOper && strings.HasPrefix(f.Text, "<<") {
			return "", false
		}
		all = append(all, f.Text)
		if f.Kind != api.TokNumber && i+1 < len(leaves) {
			all = append(all, " ")
		}
	}
	return strings.Join(all, ""), true
}

// P12.2: derivations of the leaves of texts.
func TestLexed(t *testing.T) {
	g := newGrower(2)
	count := 0
	for range 500 {
		leaves, l := whole(g.program(2))
		s, ok := writtenText(leaves)
		if !ok {
			continue
		}
		count++
		tokens, _ := token.Lex(s)
		of := token.Leaves(s, tokens)
		if !slices.Equal(texts(of), texts(leaves)) {
			t.Fatalf("%q: %q", s, texts(of))
		}
		if !derived(t, of, l) {
			return
		}
	}
	if count < 100 {
		t.Errorf("%d texts alone", count)
	}
}

// bag are leaves that may stand for others.
var bag = leavesOf("NL ; & | ( ) && || ;; << > #1 ! { } if then elif else fi while until do done for in case esac x a=1 f-1 'q' 1 ##")

// turned is a tree over leaves with one thing otherwise; it may not be right any more.
func (g *grower) turned(leaves []api.Leaf, l []api.Node) ([]api.Leaf, []api.Node) {
	leaves, l = slices.Clone(leaves), slices.Clone(l)
	i := g.r.IntN(len(l))
	switch g.r.IntN(8) {
	case 0:
		l[i].Kind = g.r.IntN(18) + 1
	case 1:
		l = without(l, i)
	case 2: // a node around one
		l = with(l, i, api.Node{Kind: g.r.IntN(18) + 1, From: l[i].From, To: l[i].To, Up: l[i].Up})
		l[i+1].Up = i
	case 3: // a node ahead of one
		l = with(l, i, api.Node{Kind: g.r.IntN(18) + 1, From: l[i].From, To: l[i].From, Up: l[i].Up})
	case 4: // a node at the end of one
		l = with(l, tree.End(l, i), api.Node{Kind: g.r.IntN(18) + 1, From: l[i].To, To: l[i].To, Up: i})
	case 5:
		field := of(g, &l[i].From, &l[i].To)
		*field += of(g, -1, 1)
	default:
		if len(leaves) == 0 {
			return leaves, l
		}
		at := g.r.IntN(len(leaves))
		if g.r.IntN(3) > 0 {
			leaves[at] = of(g, bag...)
			break
		}
		leaves = slices.Delete(leaves, at, at+1)
		for k := range l {
			if l[k].From > at {
				l[k].From--
			}
			if l[k].To > at {
				l[k].To--
			}
		}
	}
	return leaves, l
}

// without is a tree without a node, whose kids hang on its Up.
func without(l []api.Node, i int) []api.Node {
	if i == 0 {
		return l
	}
	for k := range l {
		switch up := l[k].Up; {
		case up == i:
			l[k].Up = l[i].Up
		case up > i:
			l[k].Up--
		}
	}
	return slices.Delete(l, i, i+1)
}

// with is a tree with one more node.
func with(l []api.Node, i int, n api.Node) []api.Node {
	for k := range l {
		if l[k].Up >= i {
			l[k].Up++
		}
	}
	return slices.Insert(l, i, n)
}

// P12.1, P12.2: trees that are no derivations any more by one thing or by some, or still are.
func TestTurned(t *testing.T) {
	g := newGrower(3)
	right, wrong := 0, 0
	for range 500 {
		leaves, l := whole(g.program(g.r.IntN(3)))
		if len(l) > 80 {
			continue
		}
		for range 30 {
			others, m := g.turned(leaves, l)
			for range g.r.IntN(3) {
				if len(m) > 0 && tree.Check(m, len(others)) {
					others, m = g.turned(others, m)
				}
			}
			switch {
			case !tree.Check(m, len(others)):
				if rules.Right(others, m) {
					t.Errorf("Right(%q, %v)", texts(others), m)
					return
				}
			case !checked(t, others, m):
				return
			case rules.Right(others, m):
				right++
			default:
				wrong++
			}
		}
	}
	if right < 500 || wrong < 5000 {
		t.Errorf("%d derivations, %d others alone", right, wrong)
	}
}

// P12.1, P12.2: right trees of any kinds over any leaves.
func TestAnyTrees(t *testing.T) {
	g := newGrower(4)
	for range 20000 {
		var leaves []api.Leaf
		for range g.r.IntN(6) {
			leaves = append(leaves, of(g, bag...))
		}
		l := []api.Node{{Kind: g.r.IntN(18) + 1, To: len(leaves), Up: -1}}
		for range g.r.IntN(8) {
			up := g.r.IntN(len(l))
			n := api.Node{Kind: g.r.IntN(18) + 1, From: g.r.IntN(len(leaves) + 1), Up: up}
			n.To = n.From + g.r.IntN(len(leaves)+1-n.From)
			if next := append(slices.Clone(l), n); tree.Check(next, len(leaves)) {
				l = next
			}
		}
		if !checked(t, leaves, l) {
			return
		}
	}
}

// called makes all calls, of nodes that there are and of others.
func called(leaves []api.Leaf, l []api.Node) {
	for i := -2; i <= len(l)+1; i++ {
		rules.Row(leaves, l, i)
		rules.Fits(leaves, l, i)
		rules.Deep(l, i)
	}
	rules.First(leaves, l)
	rules.Right(leaves, l)
}

// P1: rows of nodes that are no trees, and trees over fewer leaves than there are.
func TestAnyRows(t *testing.T) {
	g := newGrower(5)
	numbers := append([]int{-1, 0, 1, 2, 3, 4, 5, 6, 7, 18, 19}, far...)
	for range 20000 {
		var leaves []api.Leaf
		for range g.r.IntN(4) {
			leaves = append(leaves, of(g, bag...))
		}
		l := make([]api.Node, 1+g.r.IntN(6))
		for i := range l {
			l[i] = api.Node{Kind: of(g, append(numbers, g.r.IntN(18)+1, g.r.IntN(18)+1, g.r.IntN(18)+1, g.r.IntN(18)+1, g.r.IntN(18)+1)...), From: of(g, numbers...), To: of(g, numbers...), Up: of(g, numbers...)}
		}
		if g.r.IntN(2) == 0 {
			l[0] = api.Node{Kind: 1, To: g.r.IntN(5), Up: -1}
		}
		called(leaves, l)
		if !tree.Check(l, len(leaves)) && rules.Right(leaves, l) {
			t.Errorf("Right(%q, %v)", texts(leaves), l)
			return
		}
		for _, i := range append([]int{len(l)}, far...) {
			if rules.Row(leaves, l, i) != "" || rules.Fits(leaves, l, i) || rules.Deep(l, i) != 0 {
				t.Errorf("%v: there is no node %d", l, i)
				return
			}
		}
	}
	for range 200 {
		leaves, l := whole(g.program(1))
		for n := range min(len(leaves), 40) {
			called(leaves[:n], l)
			if rules.Right(leaves[:n], l) || rules.Right(append(slices.Clone(leaves), leaf("\n")), l) {
				t.Errorf("Right(%q, %s)", texts(leaves[:n]), tree.Show(l))
				return
			}
		}
	}
}

// strayNode and strayLeaf are what stands behind a row in its memory.
var (
	strayNode = api.Node{Kind: 5, From: -5, To: 50, Up: 3}
	strayLeaf = api.Leaf{Kind: api.TokWord, Text: "stray", From: 7, To: -7}
)

// lent is a row with such behind it in its memory.
func lent[T any](l []T, stray T) []T {
	return append(slices.Clone(l), stray, stray, stray, stray)[:len(l)]
}

// kept tells whether a row that was lent is as it was, and what is behind it, too.
func kept[T comparable](was, now []T, stray T) bool {
	return slices.Equal(append(slices.Clone(was), stray, stray, stray, stray), now[:len(now)+4])
}

// R4: no row that is handed in is changed, nor what lies behind it, and that isn't read.
func TestMemory(t *testing.T) {
	g := newGrower(6)
	for range 300 {
		leaves, l := whole(g.program(2))
		if g.r.IntN(2) == 0 {
			leaves, l = g.turned(leaves, l)
		}
		now, nodes := lent(leaves, strayLeaf), lent(l, strayNode)
		called(now, nodes)
		if !kept(leaves, now, strayLeaf) || !kept(l, nodes, strayNode) {
			t.Fatalf("changed: %q, %v", texts(leaves), l)
		}
		if len(l) < 100 && tree.Check(l, len(leaves)) && !checked(t, now, nodes) {
			return
		}
	}
	leaves, l := whole(program(simple("a"))) // a Word in the memory behind the last leaf is none
	if now, nodes := lent(leaves, strayLeaf), lent(l, strayNode); !rules.Right(now, nodes) || rules.First(now, nodes) != -1 || !rules.Fits(now, nodes, 4) || rules.Row(now, nodes, 0) != "L" {
		t.Errorf("%q, %v", texts(leaves), l)
	}
	leaves, l = whole(program(brace(simple("a"))))
	for n := range len(l) {
		called(lent(leaves, strayLeaf), slices.Clone(l)[:n])
	}
}

// P12.1, P12.2, P1: great trees: wide ones, some as deep as may be, and some much deeper.
func TestGreat(t *testing.T) {
	var of []any
	for range 100000 {
		of = append(of, command(simple("a")), ";")
	}
	leaves, l := whole(node("P", node("L", of...)))
	if !rules.Right(leaves, l) || rules.First(leaves, l) != -1 || len(rules.Row(leaves, l, 1)) != 200000 || !rules.Fits(leaves, l, 1) {
		t.Error("a long List")
	}
	p := node("B", "{", node("L", of...), "}")
	for range 199 {
		p = around("U", p)
	}
	leaves, l = whole(program(p))
	if !rules.Right(leaves, l) || rules.Deep(l, len(l)-1) != 200 {
		t.Error("a long List, in as many others as may be")
	}
	leaves, l = whole(program(around("B", p)))
	if first := rules.First(leaves, l); rules.Right(leaves, l) || first < 0 || l[first].Kind != api.NodeBrace || rules.Deep(l, first) != 200 {
		t.Error("a long List, in one more")
	}
	for _, kind := range []int{api.NodeProgram, api.NodeList, api.NodeBrace, api.NodeWord, api.NodeMissing} {
		deep := []api.Node{{Kind: api.NodeProgram, To: 1, Up: -1}}
		for i := range 300000 {
			deep = append(deep, api.Node{Kind: kind, To: 1, Up: i})
		}
		want := 0
		if kind == api.NodeBrace {
			want = 299999
		}
		if kind == api.NodeList && rules.First(leavesOf("a"), deep) != 1 || rules.Right(leavesOf("a"), deep) || rules.Deep(deep, 300000) != want || rules.Row(leavesOf("a"), deep, 299999) != letters[kind-1:kind] {
			t.Errorf("a deep tree of %d", kind)
		}
	}
}
