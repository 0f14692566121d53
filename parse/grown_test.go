package parse_test

import (
	"math/rand/v2"
	"slices"
	"strings"
	"testing"

	"quillwort/api"
	"quillwort/parse"
	"quillwort/rules"
	"quillwort/token"
	"quillwort/tree"
)

// grower draws derivations; the same ones each time.
type grower struct{ r *rand.Rand }

// newGrower is one by its seed.
func newGrower(seed uint64) *grower {
	return &grower{rand.New(rand.NewPCG(seed, 13))}
}

// of is one of these.
func of[T any](g *grower, all ...T) T {
	return all[g.r.IntN(len(all))]
}

// some are from least to most of these.
func (g *grower) some(least, most int, one func() string) (all string) {
	for range least + g.r.IntN(most-least+1) {
		all += " " + one()
	}
	return all
}

// newlines is some newlines or none.
func (g *grower) newlines() string {
	return of(g, "", "", " NL", " NL NL NL")
}

// separator is what stands between two commands.
func (g *grower) separator() string {
	return of(g, " ;", " &", " NL") + g.newlines()
}

// word is a Word, name one that is a name.
func (g *grower) word() string {
	return of(g, "@x", "@if", "@a=1", "@'q'", "@}", "@esac", "@in", "@$(a)", "@1", "@f")
}

func (g *grower) name(texts ...string) string {
	return "@" + of(g, append(texts, "x", "f", "_9")...)
}

// redirect is a Redirect, redirects are some.
func (g *grower) redirect() string {
	return "R[" + of(g, "", "", " #2") + of(g, " <", " >", " >>", " <&", " >&", " <>", " >|") + " " + g.word() + " ]"
}

func (g *grower) redirects() string {
	return g.some(0, g.r.IntN(3), g.redirect)
}

// simple is a Simple.
func (g *grower) simple() string {
	all := g.some(0, 3, func() string {
		return of(g, g.redirect(), "X[ "+of(g, "a=1", "b=", "_=x=y")+" ]")
	})
	if all == "" || g.r.IntN(2) == 0 {
		all += " @" + of(g, "x", "'if'", "ls", "1", "1=2", "ifx", "$a") + g.some(0, 3, of(g, g.word, g.redirect))
	}
	return "S[" + all + " ]"
}

// list is a List; ended: a Word may stand right behind it.
func (g *grower) list(deep int, ended bool) string {
	var all []string
	for range 1 + g.r.IntN(3) {
		all = append(all, g.andOr(deep))
	}
	last := strings.TrimRight(all[len(all)-1], " ]")
	for i := range len(all) - 1 {
		all[i] += g.separator()
	}
	if ended && !closes(last) || g.r.IntN(2) == 0 {
		all = append(all, g.separator())
	}
	return " L[ " + strings.Join(all, " ") + " ]"
}

// closes tells whether a drawing, without brackets at its end, ends with a compound's last word.
func closes(s string) bool {
	last := s[strings.LastIndexByte(s, ' ')+1:]
	return last == "}" || last == ")" || last == "fi" || last == "done" || last == "esac"
}

// andOr is an AndOr, pipe a Pipe.
func (g *grower) andOr(deep int) string {
	all := "A[ " + g.pipe(deep)
	for range g.r.IntN(2) {
		all += of(g, " &&", " ||") + g.newlines() + " " + g.pipe(deep)
	}
	return all + " ]"
}

func (g *grower) pipe(deep int) string {
	all := "I[ " + of(g, "", "", "! ") + g.command(deep)
	for range g.r.IntN(2) {
		all += " |" + g.newlines() + " " + g.command(deep)
	}
	return all + " ]"
}

// body is newlines, if any, and a List behind which a Word may stand.
func (g *grower) body(deep int) string {
	return g.newlines() + g.list(deep, true)
}

// command is a command.
func (g *grower) command(deep int) string {
	switch {
	case deep == 0 || g.r.IntN(3) == 0:
		return g.simple()
	case g.r.IntN(7) == 0:
		return "N[ " + g.name() + " ( )" + g.newlines() + " " + g.compound(deep) + " ]"
	}
	return g.compound(deep)
}

// compound is one.
func (g *grower) compound(deep int) string {
	deep--
	all := ""
	switch g.r.IntN(6) {
	case 0:
		all = "B[ {" + g.body(deep) + " }"
	case 1:
		all = "U[ (" + g.newlines() + g.list(deep, false) + " )"
	case 2:
		branch := func() string { return "elif" + g.body(deep) + " then" + g.body(deep) }
		all = "F[ if" + g.body(deep) + " then" + g.body(deep) + g.some(0, 2, branch) + g.some(0, 1, func() string { return "else" + g.body(deep) }) + " fi"
	case 3:
		all = "H[ " + of(g, "while", "until") + g.body(deep) + " do" + g.body(deep) + " done"
	case 4:
		all = "O[ for " + g.name("in", "if", "do") + g.values() + " do" + g.body(deep) + " done"
	default:
		all = "C[ case " + g.word() + g.newlines() + " in" + g.newlines() + g.some(0, 2, func() string { return g.item(deep, false) + " ;;" + g.newlines() }) + g.some(0, 1, func() string { return g.item(deep, true) }) + " esac"
	}
	return all + g.redirects() + " ]"
}

// values is what stands between a For's name and its body.
func (g *grower) values() string {
	of := of(g, ";", "NL", "", "in", "in", "in")
	switch of {
	case "in":
		return g.newlines() + " in" + g.some(0, 3, g.word) + " " + []string{";", "NL"}[g.r.IntN(2)] + g.newlines()
	case "":
		return ""
	}
	return " " + of + g.newlines()
}

// item is an Item; ended: a Word stands right behind it.
func (g *grower) item(deep int, ended bool) string {
	all := "T[ " + of(g, "( "+g.word(), g.name("if", "}", "1"))
	all += g.some(0, 2, func() string { return "| " + g.word() })
	all += " )" + g.newlines()
	if g.r.IntN(3) > 0 {
		all += g.list(deep, ended)
	}
	return all + " ]"
}

// program is a Program.
func (g *grower) program(deep int) string {
	if g.r.IntN(20) == 0 {
		return g.newlines()
	}
	return g.newlines() + g.list(deep, false)
}

// P13.3: derivations are found again; they are the trees of their texts, too.
func TestGrown(t *testing.T) {
	g := newGrower(1)
	var seen [19]int
	for range 2000 {
		s := g.program(g.r.IntN(3))
		leaves, want := drawn(s)
		if got := parse.Parse(leaves); !slices.Equal(got, want) || !rules.Right(leaves, want) {
			t.Fatalf("%s: %s, not %s", s, tree.Show(got), tree.Show(want))
		}
		if !checked(t, leaves) {
			return
		}
		text := written(leaves)
		tokens, _ := token.Lex(text)
		if all, l := parse.Of(text); !slices.Equal(all, token.Leaves(text, tokens)) || !slices.Equal(texts(all), texts(leaves)) || !slices.Equal(l, want) {
			t.Fatalf("Of(%q): %q, %s, not %s", text, texts(all), tree.Show(l), tree.Show(want))
		}
		for _, n := range want {
			seen[n.Kind]++
		}
	}
	for kind := api.NodeProgram; kind <= api.NodeFunction; kind++ {
		if seen[kind] < 200 {
			t.Errorf("%d of the kind %d alone", seen[kind], kind)
		}
	}
}

// written is a text of leaves.
func written(leaves []api.Leaf) string {
	var all []string
	for _, f := range leaves {
		all = append(all, f.Text)
		if f.Kind != api.TokNumber {
			all = append(all, " ")
		}
	}
	return strings.Join(all, "")
}

// bag are leaves that may stand for others.
var bag = leavesOf("NL NL ; ; & | | ( ( ) ) && || ;; ;; << > #1 ! { } if then elif else fi while until do done for in case esac x x f a=1 f-1 'q' 1 ##x")

// spoilt are leaves of which one is gone, there twice, another one, more than there was or elsewhere.
func (g *grower) spoilt(leaves []api.Leaf) []api.Leaf {
	leaves = slices.Clone(leaves)
	if len(leaves) == 0 {
		return []api.Leaf{of(g, bag...)}
	}
	at := g.r.IntN(len(leaves))
	switch g.r.IntN(6) {
	case 0, 1:
		return slices.Delete(leaves, at, at+1)
	case 2:
		return slices.Insert(leaves, at, leaves[at])
	case 3:
		leaves[at] = of(g, bag...)
	case 4:
		return slices.Insert(leaves, at, of(g, bag...))
	default:
		to := g.r.IntN(len(leaves))
		leaves[at], leaves[to] = leaves[to], leaves[at]
	}
	return leaves
}

// P13.1 to P13.3: derivations that were spoilt, at many places and at few.
func TestSpoilt(t *testing.T) {
	g := newGrower(2)
	clean, faulty, asking := 0, 0, 0
	for range 3000 {
		leaves, _ := drawn(g.program(g.r.IntN(3)))
		for range 6 {
			leaves = g.spoilt(leaves)
			if !checked(t, leaves) {
				return
			}
			if parse.Clean(parse.Parse(leaves)) {
				clean++
			} else {
				faulty++
			}
			if len(leaves) > 14 {
				continue
			}
			asking++
			if _, ok := derived(t, leaves); !ok {
				return
			}
			for at := -2; at <= len(leaves)+1; at++ {
				if !asked(t, leaves, at) {
					return
				}
			}
		}
	}
	if clean < 1000 || faulty < 5000 || asking < 2000 {
		t.Errorf("%d clean ones, %d with faults, %d short ones alone", clean, faulty, asking)
	}
}

// P13.1, P13.2, P1: any leaves, of kinds that there aren't, too, with texts that no token has.
func TestAnyLeaves(t *testing.T) {
	g := newGrower(3)
	odd := []string{"", " ", "\n", ";", "if", "x", "a=1", "f", "<<<", "<", "(", ")", "2", "#", "\x00", "\xff", "a b", "}", "{", "!", ";;", "in\n", "'", "f("}
	for range 30000 {
		var leaves []api.Leaf
		for range g.r.IntN(12) {
			f := of(g, bag...)
			if g.r.IntN(3) == 0 {
				f = api.Leaf{Kind: of(g, append(far, 0, 1, 2, 3, 4, 4, 5, 6, 6, 6, 7, 8, 18)...), Text: of(g, odd...), From: of(g, far...), To: of(g, far...)}
			}
			leaves = append(leaves, f)
		}
		if !checked(t, leaves) {
			return
		}
		for at := -1; at <= len(leaves); at++ {
			if !asked(t, leaves, at) {
				return
			}
		}
		for _, at := range far {
			if parse.Begins(leaves, at) {
				t.Errorf("there is no leaf %d", at)
			}
			if l, end := parse.Command(leaves, at); l != nil || end != 0 {
				t.Errorf("there is no leaf %d: %v, %d", at, l, end)
			}
		}
	}
	for _, f := range []api.Leaf{{}, {Kind: 99, Text: "if"}, {Kind: -6, Text: "a"}, {Kind: api.TokOper, Text: "x"}, {Kind: api.TokBlank, Text: " "}, {Kind: api.TokHere, Text: "E"}, {Kind: api.TokComment, Text: "\n"}} {
		leaves := []api.Leaf{leaf("a"), f, f, leaf("{"), f, leaf("b"), leaf(";"), leaf("}")}
		want := "P0-8(L0-1(A0-1(I0-1(S0-1(W0-1)))) E1-2 E2-3 L3-4(A3-4(I3-4(B3-4(M4-4 M4-4)))) E4-5 L5-7(A5-6(I5-6(S5-6(W5-6)))) E7-8)"
		if got := tree.Show(parse.Parse(leaves)); got != want {
			t.Errorf("%v: %s, not %s", f, got, want)
		}
	}
	for _, f := range []api.Leaf{{Kind: api.TokWord}, {Kind: api.TokWord, Text: "\n"}, {Kind: api.TokWord, Text: ";"}, {Kind: api.TokWord, Text: "i f"}} {
		if got := tree.Show(parse.Parse([]api.Leaf{f, f})); got != "P0-2(L0-2(A0-2(I0-2(S0-2(W0-1 W1-2)))))" {
			t.Errorf("%v: %s", f, got)
		}
	}
	for _, s := range []string{"", "x", "\n\n", ";"} {
		if got := tree.Show(parse.Parse([]api.Leaf{{Kind: api.TokNewline, Text: s}, {Kind: api.TokNewline, Text: s}})); got != "P0-2" {
			t.Errorf("the Newline %q: %s", s, got)
		}
	}
}

// P13.1, P1: any texts.
func TestAnyTexts(t *testing.T) {
	g := newGrower(4)
	pieces := []string{"a", "f", "if ", "then ", "fi ", "{ ", "} ", "(", ")", ";", "\n", "\n", "&", "|", "<", ">", "<<E", "E\n", "2>", "'", `"`, "`", "$(", "${", "$((", "#", " ", " ", "\\", "x=1 ", "case ", "in ", "esac ", "for ", "do ", "done ", "while ", "!", "! ", "\x00", "\xff", "\t"}
	for range 20000 {
		s := ""
		for range g.r.IntN(20) {
			s += of(g, pieces...)
		}
		tokens, _ := token.Lex(s)
		want := token.Leaves(s, tokens)
		leaves, l := parse.Of(s)
		if !slices.Equal(leaves, want) || !slices.Equal(l, parse.Parse(want)) {
			t.Errorf("Of(%q): %v, %s", s, leaves, tree.Show(l))
			return
		}
		if !checked(t, want) {
			return
		}
	}
}

// P13.4: two clean rows with a Newline between them, and one between brackets.
func TestTogether(t *testing.T) {
	g := newGrower(5)
	rows := [][]api.Leaf{nil, leavesOf("NL"), leavesOf("NL NL"), leavesOf("a"), leavesOf("a ;"), leavesOf("NL a & NL"), leavesOf("a && b | c"), leavesOf("! a"), leavesOf("> f"), leavesOf("a if")}
	for _, c := range append(heads, compounds...) {
		leaves, _ := drawn("L[ +" + c + " ]")
		rows = append(rows, leaves)
	}
	for range 40 {
		leaves, _ := drawn(g.program(g.r.IntN(3)))
		for range 3 {
			if parse.Clean(parse.Parse(leaves)) {
				rows = append(rows, leaves)
			}
			leaves = g.spoilt(leaves)
		}
	}
	for _, a := range rows {
		if !parse.Clean(parse.Parse(a)) {
			t.Fatalf("%q isn't clean", texts(a))
		}
		empty := !slices.ContainsFunc(a, func(f api.Leaf) bool { return f.Kind != api.TokNewline })
		for _, around := range [][2]string{{"(", ")"}, {"{", "NL }"}, {"NL (", ") ;"}, {"{", "NL } > f"}, {"f ( ) {", "NL }"}, {"! (", ") | b"}} {
			leaves := slices.Concat(leavesOf(around[0]), a, leavesOf(around[1]))
			if got := parse.Clean(parse.Parse(leaves)); got == empty {
				t.Fatalf("Clean of %q: %t", texts(leaves), got)
			}
		}
		for _, b := range rows {
			leaves := slices.Concat(a, leavesOf("NL"), b)
			l := parse.Parse(leaves)
			if !parse.Clean(l) || !rules.Right(leaves, l) {
				t.Fatalf("%q, a Newline and %q: %s", texts(a), texts(b), tree.Show(l))
			}
		}
	}
}

// strayLeaf and strayNode are what stands behind a row in its memory.
var (
	strayLeaf = api.Leaf{Kind: api.TokWord, Text: "stray", From: 7, To: -7}
	strayNode = api.Node{Kind: api.NodeError, From: -5, To: 50, Up: 3}
)

// lent is a row with such behind it in its memory.
func lent[T any](l []T, stray T) []T {
	return append(slices.Clone(l), stray, stray, stray, stray)[:len(l)]
}

// kept tells whether a row that was lent is as it was, and what is behind it, too.
func kept[T comparable](was, now []T, stray T) bool {
	return slices.Equal(append(slices.Clone(was), stray, stray, stray, stray), now[:len(now)+4])
}

// R4: no row that is handed in is changed, nor what lies behind it, and that isn't read; what is answered may be written over and grown.
func TestMemory(t *testing.T) {
	g := newGrower(6)
	for range 200 {
		leaves, _ := drawn(g.program(2))
		if g.r.IntN(2) == 0 {
			leaves = g.spoilt(leaves)
		}
		now := lent(leaves, strayLeaf)
		want := parse.Parse(leaves)
		l := parse.Parse(now)
		if !slices.Equal(l, want) {
			t.Fatalf("%q: %s, not %s", texts(leaves), tree.Show(l), tree.Show(want))
		}
		for i := range l[:cap(l)] {
			l[:cap(l)][i] = strayNode
		}
		again := parse.Parse(now)
		for at := range leaves {
			c, end := parse.Command(leaves, at)
			d, to := parse.Command(now, at)
			if !slices.Equal(c, d) || end != to || parse.Begins(leaves, at) != parse.Begins(now, at) {
				t.Fatalf("Command(%q, %d): %v, %d, not %v, %d", texts(leaves), at, d, to, c, end)
			}
			for i := range d[:cap(d)] {
				d[:cap(d)][i] = strayNode
			}
			if c, to = parse.Command(now, at); end != to || len(c) > 0 && c[0] == strayNode {
				t.Fatalf("Command(%q, %d) was written over", texts(leaves), at)
			}
		}
		if !slices.Equal(again, want) || !kept(leaves, now, strayLeaf) {
			t.Fatalf("%q was changed", texts(leaves))
		}
		nodes := lent(want, strayNode)
		faults := parse.Faults(nodes)
		all := slices.Clone(faults)
		for i := range faults[:cap(faults)] {
			faults[:cap(faults)][i] = -1
		}
		if !slices.Equal(parse.Faults(nodes), all) || parse.Clean(nodes) != (len(all) == 0) || parse.Clean(nodes) != parse.Clean(want) || !kept(want, nodes, strayNode) {
			t.Fatalf("%s was changed", tree.Show(want))
		}
		text := written(leaves)
		first, one := parse.Of(text)
		was, were := slices.Clone(first), slices.Clone(one)
		for i := range first[:cap(first)] {
			first[:cap(first)][i] = strayLeaf
		}
		if !slices.Equal(one, were) {
			t.Fatalf("the tree of %q hangs on its leaves", text)
		}
		for i := range one[:cap(one)] {
			one[:cap(one)][i] = strayNode
		}
		if second, two := parse.Of(text); !slices.Equal(second, was) || !slices.Equal(two, were) {
			t.Fatalf("Of(%q) was written over", text)
		}
	}
	for _, s := range []string{"", "a", "{", "for", "for x in", "case", "case x in", "f", "f (", "#2", "a >", "a |", "a &&", "!", "if", "a ;"} {
		leaves := leavesOf(s)
		for _, stray := range []api.Leaf{strayLeaf, leaf("("), leaf(">"), leaf("in"), leaf("NL"), leaf("}")} {
			if !slices.Equal(parse.Parse(lent(leaves, stray)), parse.Parse(leaves)) {
				t.Errorf("%s: what lies behind it in its memory was read", s)
			}
			if parse.Begins(lent(leaves, stray), len(leaves)) {
				t.Errorf("%s: a pipe begins behind it in its memory", s)
			}
		}
	}
}
