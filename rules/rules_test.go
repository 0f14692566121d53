package rules_test

import (
	"math"
	"slices"
	"strings"
	"testing"

	"quillwort/api"
	"quillwort/oper"
	"quillwort/rules"
	"quillwort/token"
	"quillwort/tree"
)

// letters are the Kinds' letters as layer 11 lists them, from 1 on.
const letters = "PLAISXWRBUFHOCTNEM"

// far are numbers outside of any row.
var far = []int{math.MinInt, math.MinInt + 1, -api.MaxText, -3, -2, -1, api.MaxText, math.MaxInt - 1, math.MaxInt}

// signs are the signs of texts that have one of their own.
var signs = map[string]byte{
	"\n": 'n', ";": ';', "&": '&', "|": '|', "(": '(', ")": ')', "&&": 'a', "||": 'o', ";;": 'y',
	"<<": '<', "<<-": '<', ">>": '<', "<&": '<', ">&": '<', "<>": '<', ">|": '<', "<": '<', ">": '<',
	"!": '!', "{": '{', "}": '}', "if": 'i', "then": 't', "elif": 'e', "else": 'l', "fi": 'f', "while": 'w', "until": 'w',
	"do": 'd', "done": 'g', "for": 'r', "in": 'k', "case": 'c', "esac": 'z',
}

// leaf is a leaf by its text: a Number is written with # ahead, a comment with two.
func leaf(s string) api.Leaf {
	sign := signs[s]
	switch {
	case sign == 'n':
		return api.Leaf{Kind: api.TokNewline, Text: s}
	case sign == 'a', sign == 'o', sign == 'y', sign > 0 && strings.IndexByte(";&|()<", sign) >= 0:
		return api.Leaf{Kind: api.TokOper, Text: s}
	case strings.HasPrefix(s, "##"):
		return api.Leaf{Kind: api.TokComment, Text: s}
	case strings.HasPrefix(s, "#"):
		return api.Leaf{Kind: api.TokNumber, Text: s[1:]}
	}
	return api.Leaf{Kind: api.TokWord, Text: s}
}

// leavesOf is leaves by their texts, with spaces between them; NL is a newline.
func leavesOf(s string) (all []api.Leaf) {
	for _, text := range strings.Fields(s) {
		if text == "NL" {
			text = "\n"
		}
		all = append(all, leaf(text))
	}
	return all
}

// treeOf is a tree by its text.
func treeOf(t *testing.T, s string) []api.Node {
	t.Helper()
	l, _, bad := tree.Read(s)
	if bad != api.OK {
		t.Fatalf("%s can't be read: %d", s, bad)
	}
	return l
}

// part is a leaf, or, if it has a letter, a node with what it is made of.
type part struct {
	letter string
	leaf   api.Leaf
	parts  []part
}

// leafPart is a leaf as a part.
func leafPart(text string) part {
	return part{leaf: leaf(text)}
}

// node is a node made of leaves, by their texts, and of other nodes.
func node(letter string, of ...any) part {
	p := part{letter: letter}
	for _, x := range of {
		switch x := x.(type) {
		case string:
			for _, f := range leavesOf(x) {
				p.parts = append(p.parts, part{leaf: f})
			}
		case part:
			p.parts = append(p.parts, x)
		case []part:
			p.parts = append(p.parts, x...)
		default:
			panic("neither a text nor a node")
		}
	}
	return p
}

// word is a Word, or an Assign if there is an = in it.
func word(s string) part {
	if strings.Contains(s, "=") {
		return node("X", s)
	}
	return node("W", s)
}

// simple is a Simple of Words and Assigns, with spaces between them.
func simple(s string) part {
	var all []part
	for _, f := range strings.Fields(s) {
		all = append(all, word(f))
	}
	return node("S", all)
}

// command is an AndOr of one command.
func command(p part) part {
	return node("A", node("I", p))
}

// list is a List of one command, with a separator behind it, if it isn't empty.
func list(p part, separator string) part {
	return node("L", command(p), separator)
}

// program is a Program of one command.
func program(p part) part {
	return node("P", list(p, ""))
}

// whole is a part's leaves and nodes.
func whole(p part) (leaves []api.Leaf, l []api.Node) {
	p.lay(-1, &leaves, &l)
	return leaves, l
}

// lay puts a part behind leaves and nodes.
func (p part) lay(up int, leaves *[]api.Leaf, l *[]api.Node) {
	if p.letter == "" {
		*leaves = append(*leaves, p.leaf)
		return
	}
	i := len(*l)
	*l = append(*l, api.Node{Kind: strings.Index(letters, p.letter) + 1, From: len(*leaves), Up: up})
	for _, q := range p.parts {
		q.lay(i, leaves, l)
	}
	(*l)[i].To = len(*leaves)
}

// P12.1: signs of Opers, of layer 5's and of others.
func TestOperSigns(t *testing.T) {
	want := map[int]byte{
		api.OpAndIf: 'a', api.OpOrIf: 'o', api.OpDsemi: 'y', api.OpHere: '<', api.OpHereTabs: '<', api.OpAppend: '<', api.OpDupIn: '<', api.OpDupOut: '<',
		api.OpReadWrite: '<', api.OpClobber: '<', api.OpIn: '<', api.OpOut: '<', api.OpAmp: '&', api.OpSemi: ';', api.OpPipe: '|', api.OpOpen: '(', api.OpShut: ')',
	}
	for op := 1; op <= 17; op++ {
		text := oper.Text(op)
		if got := rules.Sign(api.Leaf{Kind: api.TokOper, Text: text}); got != want[op] || got != signs[text] {
			t.Errorf("the Oper %s: %c", text, got)
		}
		for _, s := range []string{" " + text, text + " ", text + text + text, "x" + text, text + "x", text + "\n", "'" + text + "'", text + "\x00"} {
			if got := rules.Sign(api.Leaf{Kind: api.TokOper, Text: s}); got != '?' {
				t.Errorf("the Oper %q, which is none: %c", s, got)
			}
		}
		if got := rules.Sign(api.Leaf{Kind: api.TokWord, Text: text}); got != 'x' {
			t.Errorf("the Word %s: %c", text, got)
		}
	}
	for _, s := range []string{"", "-", "<-", "<<--", "&;", "()", ";;;", ";&", "|&", "<<<", ">>>", ">&|", "n", "a", "o", "y", "x", "?", "#", "if", "!", "{", "}", "\n", "1", "\xff"} {
		if got := rules.Sign(api.Leaf{Kind: api.TokOper, Text: s}); got != '?' {
			t.Errorf("the Oper %q, which is none: %c", s, got)
		}
	}
}

// P12.1: signs of Words: those that have one of their own, what is nearly one of them, and others.
func TestWordSigns(t *testing.T) {
	own := map[string]byte{
		"!": '!', "{": '{', "}": '}', "if": 'i', "then": 't', "elif": 'e', "else": 'l', "fi": 'f', "while": 'w', "until": 'w',
		"do": 'd', "done": 'g', "for": 'r', "in": 'k', "case": 'c', "esac": 'z',
	}
	if len(own) != 16 {
		t.Fatal("there are sixteen reserved words")
	}
	for s, want := range own {
		if got := rules.Sign(api.Leaf{Kind: api.TokWord, Text: s}); got != want {
			t.Errorf("the Word %s: %c", s, got)
		}
		others := []string{"'" + s + "'", `"` + s + `"`, `\` + s, "$" + s, s + "=", s + "''", " " + s, s + " ", s + "\n", s + s, s + "x", "x" + s, s[1:], s[:len(s)-1], strings.ToUpper(s[:1]) + s[1:] + "_", s + "\x00", s + "\\\n"}
		if up := strings.ToUpper(s); up != s {
			others = append(others, up, strings.ToUpper(s[:1])+s[1:])
		}
		for b := range 256 {
			others = append(others, s+string([]byte{byte(b)}), string([]byte{byte(b)})+s)
		}
		for _, other := range others {
			if own[other] > 0 { // else and esac are no beginnings of others, do is one of done
				continue
			}
			if got := rules.Sign(api.Leaf{Kind: api.TokWord, Text: other}); got != 'x' {
				t.Errorf("the Word %q: %c", other, got)
			}
		}
	}
	for _, s := range []string{"", "x", "a=1", "function", "select", "time", "[[", "1", "#", "\n", ";", "\x00", "\xff\xfe", "dont", "don", "els", "the", "cas", strings.Repeat("if", 1000)} {
		if got := rules.Sign(api.Leaf{Kind: api.TokWord, Text: s}); got != 'x' {
			t.Errorf("the Word %q: %c", s, got)
		}
	}
}

// P12.1: signs of leaves of every kind, and of kinds that there aren't.
func TestLeafSigns(t *testing.T) {
	for _, s := range []string{"", "x", "if", "!", ";", "<", "\n", "12", "#", "?", "n", "\xff"} {
		for kind, want := range map[int]byte{api.TokNewline: 'n', api.TokNumber: '#'} {
			for _, f := range []api.Leaf{{Kind: kind, Text: s}, {Kind: kind, Text: s, From: 3, To: 4}, {Kind: kind, Text: s, From: math.MinInt, To: math.MaxInt}} {
				if got := rules.Sign(f); got != want {
					t.Errorf("%v: %c", f, got)
				}
			}
		}
		for _, kind := range append([]int{api.TokBlank, api.TokComment, api.TokHere, 0, 8, 9, 256 + api.TokWord, 18}, far...) {
			if got := rules.Sign(api.Leaf{Kind: kind, Text: s}); got != '?' {
				t.Errorf("the kind %d: %q: %c", kind, s, got)
			}
		}
	}
}

// P12.1: rows by hand.
func TestRow(t *testing.T) {
	for _, c := range []struct {
		leaves, tree string
		rows         []string
	}{
		// one node
		{"", "P0-0", []string{""}},
		{"a", "P0-1", []string{"x"}},
		{"NL NL", "P0-2", []string{"nn"}},
		{"if a ; #2 > f ##x", "W0-7", []string{"ix;#<x?"}},
		// kids, and below them others
		{"ls -l", "P0-2(L0-2(A0-2(I0-2(S0-2(W0-1 W1-2)))))", []string{"L", "A", "I", "S", "WW", "x", "x"}},
		{"a b c", "P0-3(L0-3 M3-3)", []string{"LM", "xxx", ""}},
		// leaves ahead of the first kid, between two, and behind the last one
		{"if a ; then b c ; fi", "P0-8(L1-3(W1-2) L4-7(S4-6))", []string{"iLtLf", "W;", "x", "S;", "xx"}},
		{"NL a & || b | c NL NL", "P0-9(A1-2 I4-5 S6-7)", []string{"nA&oI|Snn", "x", "x", "x"}},
		{"( ) ; ;; !", "P0-5(M2-4)", []string{"()M!", ";y"}},
		// kids that cover none: at a node's beginning, ahead of a leaf that no kid covers, between two kids at one leaf, behind the last leaf
		{"a b ;", "P0-3(M0-0 W0-1 E1-1 W1-2 L2-2 A3-3)", []string{"MWEWL;A", "", "x", "", "x", "", ""}},
		{"a b ;", "P0-3(M0-0 E1-1 L2-2 A3-3)", []string{"MxExL;A", "", "", "", ""}},
		{"a b ;", "P0-3(M1-1 E1-1 L1-1 W1-2 A2-2 I2-2)", []string{"xMELWAI;", "", "", "", "x", "", ""}},
		{"a b ;", "P0-3(M3-3 E3-3)", []string{"xx;ME", "", ""}},
		{"a b ;", "P0-3(W0-2 M2-2 W2-3)", []string{"WMW", "xx", "", ";"}},
		{"a b ;", "P0-3(L0-3(W0-2 M2-2 M2-2) M3-3 E3-3)", []string{"LME", "WMM;", "xx", "", "", "", ""}},
		{"a b ;", "P0-3(L1-1(A1-1(I1-1) S1-1) W2-2)", []string{"xLxW;", "AS", "I", "", "", ""}},
		{"a b ;", "P0-3(L1-2(M1-1 W1-2) L2-2(M2-2) L2-3(M2-2))", []string{"xLLL", "MW", "", "x", "M", "", "M;", ""}},
		{"a b ;", "P0-3(L1-2(M1-1) L2-3(M3-3))", []string{"xLL", "Mx", "", ";M", ""}},
		// nodes that cover no leaf
		{"", "P0-0(L0-0(A0-0) M0-0)", []string{"LM", "A", "", ""}},
		{"a", "P0-1(E0-0(W0-0) N1-1)", []string{"ExN", "W", "", ""}},
		// all letters
		{"a", "M0-1(P0-0 L0-0 A0-0 I0-0 S0-0 X0-0 W0-0 R0-0 B0-0 U0-1 F1-1 H1-1 O1-1 C1-1 T1-1 N1-1 E1-1 M1-1)", append([]string{letters}, "", "", "", "", "", "", "", "", "", "x", "", "", "", "", "", "", "", "")},
		// all signs
		{"NL ; & | ( ) && || ;; << <<- >> <& >& <> >| < > #1 ! { } if then elif else fi while until do done for in case esac x ##", "P0-37", []string{"n;&|()aoy<<<<<<<<<#!{}itelfwwdgrkczx?"}},
	} {
		leaves, l := leavesOf(c.leaves), treeOf(t, c.tree)
		if len(c.rows) != len(l) || l[0].To != len(leaves) {
			t.Fatalf("%s: %d rows of %d nodes over %d leaves", c.tree, len(c.rows), len(l), len(leaves))
		}
		for i, want := range c.rows {
			if got := rules.Row(leaves, l, i); got != want {
				t.Errorf("Row(%s, %s, %d): %q, not %q", c.leaves, c.tree, i, got, want)
			}
			if got := row(leaves, l, i); got != want {
				t.Errorf("%s, %s, %d: the words are told wrongly: %q", c.leaves, c.tree, i, got)
			}
		}
		for _, i := range append([]int{len(l), len(l) + 1, -4}, far...) {
			if got := rules.Row(leaves, l, i); got != "" {
				t.Errorf("Row(%s, %s, %d): %q", c.leaves, c.tree, i, got)
			}
			if rules.Fits(leaves, l, i) {
				t.Errorf("Fits(%s, %s, %d)", c.leaves, c.tree, i)
			}
		}
	}
	for _, i := range append([]int{0, 1, 2}, far...) {
		if rules.Row(nil, nil, i) != "" || rules.Fits(nil, nil, i) || rules.Row(leavesOf("a"), nil, i) != "" || rules.Fits(leavesOf("a"), nil, i) {
			t.Errorf("there is no node %d", i)
		}
	}
}

// P12.1, P12.2: derivations of texts, by hand.
func TestDerivations(t *testing.T) {
	for _, c := range [][2]string{
		{"", "P0-0"},
		{"\n\n # x\n", "P0-3"},
		{"ls -l", "P0-2(L0-2(A0-2(I0-2(S0-2(W0-1 W1-2)))))"},
		{"\nls;\n\n", "P0-5(L1-5(A1-2(I1-2(S1-2(W1-2)))))"},
		{"a & b\nc", "P0-5(L0-5(A0-1(I0-1(S0-1(W0-1))) A2-3(I2-3(S2-3(W2-3))) A4-5(I4-5(S4-5(W4-5)))))"},
		{"a&&\nb||! c", "P0-7(L0-7(A0-7(I0-1(S0-1(W0-1)) I3-4(S3-4(W3-4)) I5-7(S6-7(W6-7)))))"},
		{"! a |\n\nb|c", "P0-8(L0-8(A0-8(I0-8(S1-2(W1-2) S5-6(W5-6) S7-8(W7-8)))))"},
		{"x=1 2>f y=z c a=b <<E >&-", "P0-11(L0-11(A0-11(I0-11(S0-11(X0-1 R1-4(W3-4) X4-5 W5-6 W6-7 R7-9(W8-9) R9-11(W10-11))))))"},
		{"{ a;} >f", "P0-6(L0-6(A0-6(I0-6(B0-6(L1-3(A1-2(I1-2(S1-2(W1-2)))) R4-6(W5-6))))))"},
		{"(\na) 2<f >g", "P0-9(L0-9(A0-9(I0-9(U0-9(L2-3(A2-3(I2-3(S2-3(W2-3)))) R4-7(W6-7) R7-9(W8-9))))))"},
		{"if a;then b;fi", "P0-7(L0-7(A0-7(I0-7(F0-7(L1-3(A1-2(I1-2(S1-2(W1-2)))) L4-6(A4-5(I4-5(S4-5(W4-5)))))))))"},
		{"if a\nthen b\nelif c\nthen d\nelse e\nfi", "P0-16(L0-16(A0-16(I0-16(F0-16(L1-3(A1-2(I1-2(S1-2(W1-2)))) L4-6(A4-5(I4-5(S4-5(W4-5)))) L7-9(A7-8(I7-8(S7-8(W7-8)))) L10-12(A10-11(I10-11(S10-11(W10-11)))) L13-15(A13-14(I13-14(S13-14(W13-14)))))))))"},
		{"until a;do b&done", "P0-7(L0-7(A0-7(I0-7(H0-7(L1-3(A1-2(I1-2(S1-2(W1-2)))) L4-6(A4-5(I4-5(S4-5(W4-5)))))))))"},
		{"for in in in if;do a;done", "P0-10(L0-10(A0-10(I0-10(O0-10(W1-2 W3-4 W4-5 L7-9(A7-8(I7-8(S7-8(W7-8)))))))))"},
		{"for x do a;done", "P0-6(L0-6(A0-6(I0-6(O0-6(W1-2 L3-5(A3-4(I3-4(S3-4(W3-4)))))))))"},
		{"case a in esac", "P0-4(L0-4(A0-4(I0-4(C0-4(W1-2)))))"},
		{"case if in (esac|b) ;; c) a\nesac", "P0-14(L0-14(A0-14(I0-14(C0-14(W1-2 T3-8(W4-5 W6-7) T9-13(W9-10 L11-13(A11-12(I11-12(S11-12(W11-12))))))))))"},
		{"f()\n{ a;}", "P0-8(L0-8(A0-8(I0-8(N0-8(W0-1 B4-8(L5-7(A5-6(I5-6(S5-6(W5-6))))))))))"},
	} {
		tokens, _ := token.Lex(c[0])
		leaves := token.Leaves(c[0], tokens)
		derived(t, leaves, treeOf(t, c[1]))
	}
}

// derived checks that a tree is a derivation.
func derived(t *testing.T, leaves []api.Leaf, l []api.Node) bool {
	t.Helper()
	if first := rules.First(leaves, l); first != -1 || !rules.Right(leaves, l) {
		t.Errorf("%s is no derivation of %v: %d", tree.Show(l), texts(leaves), first)
		return false
	}
	for i := range l {
		if !rules.Fits(leaves, l, i) {
			t.Errorf("%s, %v: %d doesn't fit", tree.Show(l), texts(leaves), i)
			return false
		}
	}
	return true
}

// texts are leaves' texts.
func texts(leaves []api.Leaf) (all []string) {
	for _, f := range leaves {
		all = append(all, f.Text)
	}
	return all
}

// asked is a tree that is made of parts, with the node at which First is to end; -1: all fit.
type asked struct {
	what  string
	tree  part
	first int
}

// answered checks First, Right and Fits of trees.
func answered(t *testing.T, all []asked) {
	t.Helper()
	for _, c := range all {
		leaves, l := whole(c.tree)
		if got := rules.First(leaves, l); got != c.first {
			t.Errorf("%s: First of %s, %q: %d, not %d", c.what, tree.Show(l), texts(leaves), got, c.first)
		}
		if c.first >= 0 && rules.Fits(leaves, l, c.first) {
			t.Errorf("%s: %s, %q: %d fits", c.what, tree.Show(l), texts(leaves), c.first)
		}
		checked(t, leaves, l)
	}
}

// P12.1: a node that covers no leaf, of each kind, with and without the kids that its row asks for.
func TestNoLeaf(t *testing.T) {
	rows := map[string]string{"L": "A", "A": "I", "I": "S", "S": "W"}
	for kind := 1; kind <= len(letters); kind++ {
		letter := letters[kind-1 : kind]
		for _, below := range []string{"", "L", "A", "I", "S", "W", "R", "X", "M", rows[letter]} {
			leaves, l := built(below, 0)
			l[1].Kind = kind
			want := letter == "P" && (below == "" || below == "L")
			if got := rules.Fits(leaves, l, 1); got != want {
				t.Errorf("%s over no leaf, with the row %q: %t", letter, below, got)
			}
			checked(t, leaves, l)
		}
	}
	answered(t, []asked{
		{"nothing", node("P"), -1},
		{"a List of nothing", node("P", node("L")), 1},
		{"a List of an AndOr of nothing", node("P", node("L", node("A"))), 1},
		{"nothing down to a Word", node("P", node("L", node("A", node("I", node("S", node("W")))))), 1},
		{"a Word of nothing", program(node("S", node("W"), node("W", "a"))), 5},
		{"a Simple of nothing behind a !", program(node("I", "!", node("S"))), 3},
		{"a List of nothing in a Brace", program(node("B", "{", node("L"), "}")), 5},
		{"a Redirect's Word of nothing", program(node("S", node("R", "<", node("W")))), 6},
		{"a Program in a Program", node("P", node("P")), 0},
	})
}

// P12.1: how a Simple begins, what stands behind it, and its first Word.
func TestSimple(t *testing.T) {
	all := []asked{
		{"Words", program(simple("a b c")), -1},
		{"Assigns alone", program(simple("a=1 b=2")), -1},
		{"an assignment behind a Word", program(node("S", node("W", "a"), node("W", "b=1"))), -1},
		{"an assignment as the first Word", program(node("S", node("W", "b=1"))), 4},
		{"an assignment as the first Word, behind an Assign", program(node("S", node("X", "a=1"), node("W", "b=1"))), 4},
		{"an assignment as the first Word, behind a Redirect", program(node("S", node("R", ">", node("W", "f")), node("W", "b="))), 4},
		{"an assignment as a Redirect's Word", program(node("S", node("R", ">", node("W", "b=1")), node("W", "a"))), -1},
		{"nearly an assignment", program(node("S", node("W", "1=1"))), -1},
		{"a quoted assignment", program(node("S", node("W", `a\=1`))), -1},
		{"a = alone", program(node("S", node("W", "="))), -1},
		{"a Word of nothing ahead of an assignment", program(node("S", node("W"), node("W", "b=1"))), 4},
		{"a Word of nothing ahead of another one", program(node("S", node("W"), node("W", "b"), node("W", "c=1"))), 5},
		{"an Assign that is none", program(node("S", node("X", "a"))), 5},
		{"an Assign that is nearly one", program(node("S", node("X", "1a=b"))), 5},
		{"an Assign of nothing's name", program(node("S", node("X", "=b"))), 5},
		{"an Assign that is a Number", program(node("S", node("X", "#1"))), 5},
		{"a Number behind a Word", program(node("S", node("W", "a"), "#1")), 4},
		{"a Word of a Number", program(node("S", node("W", "#1"))), 5},
		{"two Words as one", program(node("S", node("W", "a b"))), 5},
	}
	for _, r := range reserved {
		all = append(all,
			asked{"a reserved word begins", program(node("S", node("W", r))), 4},
			asked{"a reserved word begins, ahead of a Word", program(node("S", node("W", r), node("W", "a"))), 4},
			asked{"a reserved word begins, behind a Word of nothing", program(node("S", node("W"), node("W", r))), 4},
			asked{"a reserved word begins as an Assign", program(node("S", node("X", r), node("W", "a"))), 4},
			asked{"a reserved word behind a Word", program(node("S", node("W", "a"), node("W", r))), -1},
			asked{"a reserved word behind an Assign", program(node("S", node("X", "a=1"), node("W", r))), -1},
			asked{"a reserved word behind a Redirect", program(node("S", node("R", "#2", ">", node("W", "f")), node("W", r))), -1},
			asked{"a reserved word as a Redirect's Word", program(node("S", node("R", ">", node("W", r)))), -1},
			asked{"a quoted reserved word", program(node("S", node("W", `\`+r))), -1},
			asked{"a reserved word and more", program(node("S", node("W", r+"_"))), -1},
			asked{"a reserved word right behind", node("P", list(simple("a"), ""), r), 0},
			asked{"a reserved word right behind, in an If", program(node("F", "if", list(simple("a"), ""), "then", list(simple("b"), ";"), "fi")), 8},
			asked{"a reserved word right behind, in another Simple", node("P", node("L", command(simple("a")), command(simple("b")))), 1},
			asked{"a reserved word behind a separator", program(node("B", "{", list(simple("a"), ";"), "}")), -1},
		)
	}
	for _, behind := range []struct {
		leaf string
		fits bool
	}{
		{"x", false}, {"a=1", false}, {"'q'", false}, {"#2", false}, {"<", false}, {">", false}, {"<<", false}, {"<<-", false}, {">>", false}, {"<&", false}, {">&", false}, {"<>", false}, {">|", false},
		{"NL", true}, {";", true}, {"&", true}, {"|", true}, {"&&", true}, {"||", true}, {";;", true}, {"(", true}, {")", true}, {"##", true},
	} {
		for _, c := range []part{simple("a b"), simple("a=1"), node("S", node("R", ">", node("W", "f")))} {
			leaves, l := whole(node("E", c, behind.leaf))
			if got := rules.Fits(leaves, l, 1); got != behind.fits {
				t.Errorf("%s ahead of %s: %t", rules.Row(leaves, l, 1), behind.leaf, got)
			}
			checked(t, leaves, l)
			leaves, l = whole(node("E", c, ";", behind.leaf))
			if !rules.Fits(leaves, l, 1) {
				t.Errorf("%s, with %s farther behind", rules.Row(leaves, l, 1), behind.leaf)
			}
			leaves, l = whole(node("E", node("E", c), behind.leaf)) // behind it, and behind what is above it
			if got := rules.Fits(leaves, l, 2); got != behind.fits {
				t.Errorf("%s one deeper, ahead of %s: %t", rules.Row(leaves, l, 2), behind.leaf, got)
			}
			leaves, l = whole(node("E", c, node("W", behind.leaf))) // in a sister
			if got := rules.Fits(leaves, l, 1); got != behind.fits {
				t.Errorf("%s ahead of %s in a Word: %t", rules.Row(leaves, l, 1), behind.leaf, got)
			}
		}
	}
	for _, r := range reserved { // a leaf that isn't a Word is none that is reserved, whatever its text
		all = append(all, asked{"a Number with a reserved text begins", program(node("S", node("R", "#"+r, "<", node("W", "f")))), -1})
	}
	answered(t, all)
}

// brace is a Brace of a command.
func brace(p part) part {
	return node("B", "{", list(p, ";"), "}")
}

// function is a Function of that name; loop a For of that name and those Words.
func function(name any) part {
	return node("N", name, "( )", brace(simple("a")))
}

func loop(name any, values ...any) part {
	of := append([]any{"for", name}, values...)
	return node("O", append(of, "do", list(simple("a"), ";"), "done")...)
}

// P12.1: names of Functions and Fors, and what isn't one.
func TestNames(t *testing.T) {
	var all []asked
	for _, name := range []string{"f", "_", "x1", "Ab_9", "ifx", "If"} {
		all = append(all, asked{"a Function's name", program(function(word(name))), -1}, asked{"a For's name", program(loop(word(name))), -1})
	}
	for _, name := range []string{"1", "1f", "a-b", "a.b", "'f'", `\f`, "$f", "a$", "f/", "é", "a+", "-"} {
		all = append(all, asked{"no Function's name", program(function(node("W", name))), 4}, asked{"no For's name", program(loop(node("W", name))), 4})
	}
	for _, name := range reserved {
		first := -1
		if strings.Contains("!{}", name) {
			first = 4
		}
		all = append(all,
			asked{"a reserved word as a Function's name", program(function(node("W", name))), 4},
			asked{"a reserved word as a For's name", program(loop(node("W", name))), first},
			asked{"a reserved word as a For's second Word", program(loop(node("W", "x"), "in", node("W", name), ";")), -1},
		)
	}
	answered(t, append(all,
		asked{"an assignment as a Function's name", program(function(node("W", "f=1"))), 4},
		asked{"an assignment as a For's name", program(loop(node("W", "f=1"))), 4},
		asked{"an empty word as a Function's name", program(node("N", part{letter: "W", parts: []part{{leaf: api.Leaf{Kind: api.TokWord}}}}, "( )", brace(simple("a")))), 4},
		asked{"an empty word as a For's name", program(loop(part{letter: "W", parts: []part{{leaf: api.Leaf{Kind: api.TokWord}}}})), 4},
		asked{"nothing as a Function's name", program(function(node("W"))), 4},
		asked{"nothing as a For's name", program(loop(node("W"))), 4},
		asked{"nothing as a For's name, with a name behind in", program(loop(node("W"), "in", node("W", "x"), ";")), 5},
		asked{"nothing as a For's name, with no name behind in", program(loop(node("W"), "in", node("W", "1"), node("W", "x"), ";")), 4},
		asked{"a For's second Word is no name", program(loop(node("W", "x"), "in", node("W", "1"), node("W", "a-b"), ";")), -1},
		asked{"a For's first Word of two is no name", program(loop(node("W", "1"), "in", node("W", "x"), ";")), 4},
		asked{"a name of two leaves", program(function(node("W", "f g"))), 5},
		asked{"a Function with a Redirect behind its Brace", program(node("N", node("W", "f"), "( )", node("B", "{", list(simple("a"), ";"), "}", node("R", ">", node("W", "g"))))), -1},
		asked{"a Function of a Simple", program(node("N", node("W", "f"), "( )", simple("a"))), 4},
		asked{"a Function of a Function", program(node("N", node("W", "f"), "( )", function(node("W", "g")))), 4},
	))
}

// cases is a Case of one Item.
func cases(item part) part {
	return node("C", "case", node("W", "a"), "in", item, "esac")
}

// P12.1: the first word of an Item, with the bracket and without.
func TestItem(t *testing.T) {
	esac := node("W", "esac")
	answered(t, []asked{
		{"a word", program(cases(node("T", node("W", "b"), ")"))), -1},
		{"esac", program(cases(node("T", esac, ")"))), 6},
		{"esac behind a bracket", program(cases(node("T", "(", esac, ")"))), -1},
		{"esac and another word", program(cases(node("T", esac, "|", node("W", "b"), ")"))), 6},
		{"esac and another word behind a bracket", program(cases(node("T", "(", esac, "|", node("W", "b"), ")"))), -1},
		{"esac as the second word", program(cases(node("T", node("W", "b"), "|", esac, ")"))), -1},
		{"a quoted esac", program(cases(node("T", node("W", `\esac`), ")"))), -1},
		{"esac and more", program(cases(node("T", node("W", "esac_"), ")"))), -1},
		{"another reserved word", program(cases(node("T", node("W", "if"), "|", node("W", "}"), ")"))), -1},
		{"a word of nothing ahead of esac", program(cases(node("T", node("W"), "|", esac, ")"))), 6},
		{"a word of nothing ahead of esac, behind a bracket", program(cases(node("T", "(", node("W"), "|", esac, ")"))), 7},
		{"a word of nothing alone", program(cases(node("T", node("W"), ")"))), 7},
		{"esac in an Item's List", program(cases(node("T", node("W", "b"), ")", list(simple("esac"), "NL")))), 11},
		{"esac as the Case's word", program(node("C", "case", esac, "in", node("T", node("W", "b"), ")"), "esac")), -1},
		{"esac as a second Item's word", program(node("C", "case", esac, "in", node("T", node("W", "b"), ")"), ";;", node("T", esac, ")"), "esac")), 8},
		{"a bracket as a word", program(cases(node("T", node("W", "("), ")"))), 7},
	})
}

// nested are so many nodes that count as deep, one above the other, of these kinds one by one, around a command.
func nested(kinds string, n int) part {
	p := simple("a")
	for i := n - 1; i >= 0; i-- {
		p = around(kinds[i%len(kinds):i%len(kinds)+1], p)
	}
	return p
}

// around is a node of a kind around a command.
func around(kind string, p part) part {
	body := list(p, ";")
	switch kind {
	case "B":
		return node("B", "{", body, "}")
	case "U":
		return node("U", "(", body, ")")
	case "F":
		return node("F", "if", list(simple("a"), ";"), "then", list(simple("a"), ";"), "else", body, "fi")
	case "H":
		return node("H", "while", body, "do", list(simple("a"), ";"), "done")
	case "O":
		return node("O", "for", node("W", "x"), "do", body, "done")
	case "C":
		return cases(node("T", node("W", "b"), ")", body))
	}
	if !strings.Contains("BUFHOC", p.letter) {
		p = brace(p)
	}
	return node("N", node("W", "f"), "( )", p)
}

// P12.1, P12.2: as deep as may be, and one deeper.
func TestDeepest(t *testing.T) {
	for _, kinds := range []string{"B", "U", "F", "H", "O", "C", "BUFHOC", "UC"} {
		for _, n := range []int{1, 2, 199, 200, 201, 202} {
			leaves, l := whole(program(nested(kinds, n)))
			first := -1
			for i := range l {
				if strings.IndexByte("BUFHOCN", letters[l[i].Kind-1]) >= 0 && deep(l, i) >= 200 && first < 0 {
					first = i
				}
			}
			if n <= 200 != (first < 0) {
				t.Fatalf("%s: %d: %d", kinds, n, first)
			}
			if got := rules.First(leaves, l); got != first {
				t.Errorf("%d of %s: First: %d, not %d", n, kinds, got, first)
			}
			if got := rules.Right(leaves, l); got != (n <= 200) {
				t.Errorf("%d of %s: Right: %t", n, kinds, got)
			}
			for i := range l {
				if got, want := rules.Deep(l, i), deep(l, i); got != want {
					t.Fatalf("%d of %s: Deep of %d: %d, not %d", n, kinds, i, got, want)
				}
			}
			if n > 200 && (rules.Fits(leaves, l, first) || rules.Deep(l, first) != 200) {
				t.Errorf("%d of %s: %d fits", n, kinds, first)
			}
			last := len(l) - 1
			for l[last].Kind != api.NodeSimple || deep(l, last) < n {
				last--
			}
			if !rules.Fits(leaves, l, last) || rules.Deep(l, last) != n {
				t.Errorf("%d of %s: the command in all of them, %d", n, kinds, rules.Deep(l, last))
			}
		}
	}
}

// P12.1, P12.2: Functions count, and what they name, too; of each kind the last one that may be, and the first one that may not.
func TestDeepKinds(t *testing.T) {
	for _, last := range []string{"B", "U", "F", "H", "O", "C", "N"} {
		for _, n := range []int{198, 199, 200, 201} { // nodes above the last one
			p := around(last, simple("a"))
			if last == "N" {
				p = node("N", node("W", "f"), "( )", node("U", "(", list(simple("a"), ";"), ")"))
			}
			for i := range n {
				p = around([]string{"U", "B", "C", "O", "H"}[i%5], p)
			}
			leaves, l := whole(program(p))
			i := 0
			for deep(l, i) != n || letters[l[i].Kind-1] != last[0] {
				i++
			}
			if got := rules.Fits(leaves, l, i); got != (n < 200) {
				t.Errorf("%s below %d: %t", last, n, got)
			}
			if got, want := rules.Right(leaves, l), n < 199 || n == 199 && last != "N"; got != want {
				t.Errorf("%s below %d: Right: %t", last, n, got)
			}
			checkedDeep(t, leaves, l)
		}
	}
	p := node("U", "(", list(simple("a"), ";"), ")")
	for range 100 {
		p = around("N", brace(p))
	}
	leaves, l := whole(program(p)) // a hundred Functions and a hundred Braces are above the Subshell
	first := slices.IndexFunc(l, func(x api.Node) bool { return x.Kind == api.NodeSubshell })
	if got := rules.First(leaves, l); got != first || rules.Deep(l, first) != 200 {
		t.Errorf("Functions and Braces: %d, not %d", got, first)
	}
}

// checkedDeep checks First against Fits.
func checkedDeep(t *testing.T, leaves []api.Leaf, l []api.Node) {
	t.Helper()
	first := -1
	for i := range l {
		if !rules.Fits(leaves, l, i) {
			first = i
			break
		}
	}
	if got := rules.First(leaves, l); got != first {
		t.Errorf("First: %d, not %d", got, first)
	}
}

// P12.2: which kinds count, above a node, and that it doesn't count itself.
func TestDeep(t *testing.T) {
	counts := map[string]int{"B": 1, "U": 1, "F": 1, "H": 1, "O": 1, "C": 1, "N": 1}
	for _, a := range strings.Split(letters, "") {
		l := treeOf(t, a+"0-0")
		if got := rules.Deep(l, 0); got != 0 {
			t.Errorf("Deep(%s, 0): %d", tree.Show(l), got)
		}
		for _, b := range strings.Split(letters, "") {
			l := treeOf(t, a+"0-3("+b+"0-1(X0-1 X1-1(X1-1)) "+b+"1-2(X1-1) X2-3)")
			want := []int{0, counts[a], counts[a] + counts[b], counts[a] + counts[b], counts[a] + counts[b], counts[a], counts[a] + counts[b], counts[a]}
			for i, n := range want {
				if got := rules.Deep(l, i); got != n {
					t.Errorf("Deep(%s, %d): %d, not %d", tree.Show(l), i, got, n)
				}
			}
			for _, i := range append([]int{len(l), len(l) + 1}, far...) {
				if got := rules.Deep(l, i); got != 0 {
					t.Errorf("Deep(%s, %d): %d", tree.Show(l), i, got)
				}
			}
		}
	}
	l := treeOf(t, "P0-1(L0-1(B0-1(E0-1(U0-1(W0-1(F0-1(H0-1(M0-1(O0-1(C0-1(T0-1(N0-1(A0-1)))))))))))) B1-1)")
	for i, n := range []int{0, 0, 0, 1, 1, 2, 2, 3, 4, 4, 5, 6, 6, 7, 0} {
		if got := rules.Deep(l, i); got != n {
			t.Errorf("Deep of %d: %d, not %d", i, got, n)
		}
	}
	for _, i := range append([]int{0, 1}, far...) {
		if got := rules.Deep(nil, i); got != 0 {
			t.Errorf("Deep of none: %d", got)
		}
	}
}

// P12.1: the first node that doesn't fit.
func TestFirst(t *testing.T) {
	answered(t, []asked{
		{"all fit", program(simple("a b")), -1},
		{"all fit, of a List", list(simple("a"), ";"), -1},
		{"all fit, of a Word", node("W", "a"), -1},
		{"the first node doesn't", node("P", list(simple("a"), ""), "NL"), 0},
		{"the first node doesn't, alone", node("E", "a"), 0},
		{"the first node is a Missing", node("M"), 0},
		{"the last node doesn't", program(node("S", node("W", "a"), node("W", "b"), node("W", ";"))), 7},
		{"the last node is an Error", node("P", list(simple("a"), ";"), node("E", "a")), 0},
		{"one in the midst", program(node("S", node("R", "<"), node("W", "b"))), 5},
		{"several", program(node("S", node("X", "a"), node("W", "b=1"), node("W", "#1"))), 4},
		{"several, one below the other", program(node("F", "if", node("L", node("A", node("E", "a")), ";"), "fi")), 4},
		{"several sisters", node("L", command(node("S", node("W", "if"))), ";", command(node("S", node("W", "fi"))), ";"), 3},
		{"none but the last of them", node("P", node("L", command(simple("a")), ";", command(simple("b")), ";", command(node("S", node("X", "b"))), ";")), 13},
	})
	if got := rules.First(nil, nil); got != -1 {
		t.Errorf("First of none: %d", got)
	}
	if got := rules.First(leavesOf("a"), nil); got != -1 {
		t.Errorf("First of none over a leaf: %d", got)
	}
}

// P12.2: what is a derivation, and what isn't.
func TestRight(t *testing.T) {
	for _, c := range []struct {
		leaves, tree string
		want         bool
	}{
		{"", "P0-0", true},
		{"NL", "P0-1", true},
		{"a", "P0-1(L0-1(A0-1(I0-1(S0-1(W0-1)))))", true},
		// more leaves than there are, and fewer
		{"", "P0-1", false},
		{"NL", "P0-0", false},
		{"NL NL", "P0-1", false},
		{"NL", "P0-2", false},
		{"a NL", "P0-1(L0-1(A0-1(I0-1(S0-1(W0-1)))))", false},
		{"a ;", "P0-1(L0-1(A0-1(I0-1(S0-1(W0-1)))))", false},
		{"", "P0-1(L0-1(A0-1(I0-1(S0-1(W0-1)))))", false},
		{"a", "P0-2(L0-2(A0-1(I0-1(S0-1(W0-1)))))", false},
		// a first node that is no Program
		{"a", "L0-1(A0-1(I0-1(S0-1(W0-1))))", false},
		{"a", "W0-1", false},
		{"a", "S0-1(W0-1)", false},
		{"a", "E0-1", false},
		{"", "M0-0", false},
		{"", "L0-0", false},
		// a node that doesn't fit
		{"", "P0-0(L0-0)", false},
		{"", "P0-0(M0-0)", false},
		{"", "P0-0(P0-0)", false},
		{"NL", "P0-1(P0-1)", false},
		{"a", "P0-1", false},
		{"a", "P0-1(E0-1)", false},
		{"a", "P0-1(L0-1)", false},
		{"a", "P0-1(L0-1(A0-1(I0-1(S0-1))))", false},
		{"a", "P0-1(L0-1(A0-1(I0-1(S0-1(X0-1)))))", false},
		{"if", "P0-1(L0-1(A0-1(I0-1(S0-1(W0-1)))))", false},
		{"a=1", "P0-1(L0-1(A0-1(I0-1(S0-1(W0-1)))))", false},
		{"a b", "P0-2(L0-1(A0-1(I0-1(S0-1(W0-1)))) L1-2(A1-2(I1-2(S1-2(W1-2)))))", false},
	} {
		leaves, l := leavesOf(c.leaves), treeOf(t, c.tree)
		if got := rules.Right(leaves, l); got != c.want {
			t.Errorf("Right(%s, %s): %t", c.leaves, c.tree, got)
		}
	}
	if rules.Right(nil, nil) || rules.Right(leavesOf("NL"), nil) || rules.Right([]api.Leaf{}, []api.Node{}) {
		t.Error("there is no node")
	}
}

// P12.2: rows that are no right trees, each of them a derivation but for one number.
func TestNotRight(t *testing.T) {
	turned := 0
	for _, p := range []part{node("P"), node("P", "NL"), program(simple("a b")), program(brace(simple("a=1"))), program(nested("BUFHOC", 7)), program(function(node("W", "f")))} {
		leaves, l := whole(p)
		if !derived(t, leaves, l) {
			return
		}
		for i := range l {
			for _, field := range []*int{&l[i].Kind, &l[i].From, &l[i].To, &l[i].Up} {
				was := *field
				for _, other := range append([]int{0, 1, 2, 3, 4, 5, 6, 7, 8, 9, 10, 18, 19, was - 1, was + 1, len(leaves), len(leaves) + 1, len(l)}, far...) {
					*field = other
					if got := rules.Right(leaves, l); got != (other == was) {
						t.Errorf("Right(%q, %v), with %d for %d: %t", texts(leaves), l, other, was, got)
						return
					}
					turned++
					if tree.Check(l, len(leaves)) && !checked(t, leaves, l) {
						return
					}
				}
				*field = was
			}
		}
	}
	if turned < 5000 {
		t.Errorf("%d rows alone", turned)
	}
}

// P12.3: the Kinds' names.
func TestName(t *testing.T) {
	names := strings.Split("program, list, and-or, pipe, simple, assign, word, redirect, brace, subshell, if, loop, for, case, item, function, error, missing", ", ")
	if len(names) != api.NodeMissing {
		t.Fatal("there are eighteen Kinds")
	}
	for i, want := range names {
		if got := rules.Name(i + 1); got != want {
			t.Errorf("Name(%d): %q, not %q", i+1, got, want)
		}
	}
	for _, c := range []struct {
		kind int
		want string
	}{
		{api.NodeProgram, "program"}, {api.NodeList, "list"}, {api.NodeAndOr, "and-or"}, {api.NodePipe, "pipe"}, {api.NodeSimple, "simple"}, {api.NodeAssign, "assign"}, {api.NodeWord, "word"}, {api.NodeRedirect, "redirect"}, {api.NodeBrace, "brace"},
		{api.NodeSubshell, "subshell"}, {api.NodeIf, "if"}, {api.NodeLoop, "loop"}, {api.NodeFor, "for"}, {api.NodeCase, "case"}, {api.NodeItem, "item"}, {api.NodeFunction, "function"}, {api.NodeError, "error"}, {api.NodeMissing, "missing"},
	} {
		if got := rules.Name(c.kind); got != c.want {
			t.Errorf("Name(%d): %q, not %q", c.kind, got, c.want)
		}
	}
	for _, kind := range append([]int{0, 19, 20, 36, 255, 256 + 1, 1 << 32, 1<<32 + 1}, far...) {
		if got := rules.Name(kind); got != "" {
			t.Errorf("Name(%d): %q", kind, got)
		}
	}
}
