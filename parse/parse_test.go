package parse_test

import (
	"math"
	"slices"
	"strings"
	"testing"

	"quillwort/api"
	"quillwort/parse"
	"quillwort/rules"
	"quillwort/token"
	"quillwort/tree"
)

// P13.1: Of texts: their leaves, as layer 9 has them, and the tree of these.
func TestOf(t *testing.T) {
	for _, c := range [][2]string{
		{"", ""},
		{" \t", ""},
		{"# only that", ""},
		{"\n # x\n\n", "NL NL NL"},
		{"ls -l", "L[ +S[ @ls @-l ] ]"},
		{"ls -l # x\n#y\nls", "L[ +S[ @ls @-l ] NL NL +ls ]"},
		{"a#b #c", "L[ +a#b ]"},
		{"a \\\n b", "L[ +S[ @a @b ] ]"},
		{"if a; then", "L[ +F[ if L[ +a ; ] then M M ] ]"},
		{"{ a; } b", "L[ +B[ { L[ +a ; ] } ] ] E[ b ]"},
		{"a )", "L[ +a ] E[ ) ]"},
		{"{ a; }; b", "L[ +B[ { L[ +a ; ] } ] ; +b ]"},
		{"{a; }", "L[ +{a ; ] E[ } ]"},
		{"(a;b)", "L[ +U[ ( L[ +a ; +b ] ) ] ]"},
		{"a=1 b 2>&1 >f", "L[ +S[ X[ a=1 ] @b R[ #2 >& @1 ] R[ > @f ] ] ]"},
		{"a 2 >f", "L[ +S[ @a @2 R[ > @f ] ] ]"},
		{"a2>f", "L[ +S[ @a2 R[ > @f ] ] ]"},
		{"!a; ! a", "L[ +!a ; A[ I[ ! .a ] ] ]"},
		{"if if", "L[ +F[ if L[ +F[ if M M M M ] ] M M M ] ]"},
		{"'if' a", "L[ +S[ @'if' @a ] ]"},
		{`\if`, `L[ +\if ]`},
		{"i\\\nf a", "L[ +S[ @i\\^f @a ] ]"},
		{"for i in 1 2; do echo $i; done", "L[ +O[ for @i in @1 @2 ; do L[ +S[ @echo @$i ] ; ] done ] ]"},
		{"case $x in a|b) c;; (*) d; esac", "L[ +C[ case @$x in T[ @a | @b ) L[ +c ] ] ;; T[ ( @* ) L[ +d ; ] ] esac ] ]"},
		{"f() { a; } >x\nf", "L[ +N[ @f ( ) B[ { L[ +a ; ] } R[ > @x ] ] ] NL +f ]"},
		{"f ()(a)", "L[ +N[ @f ( ) U[ ( L[ +a ] ) ] ] ]"},
		{"'f'()(a)", "L[ +'f' ] E[ ( ] E[ ) ] L[ +U[ ( L[ +a ] ) ] ]"},
		// quotes and substitutions that are left open
		{"'", "L[ +' ]"},
		{"a 'b c; d )\n", "L[ +S[ @a @'b~c;~d~)^ ] ]"},
		{"a;\"b c", "L[ +a ; +\"b~c ]"},
		{"if a; then \"b c; fi", "L[ +F[ if L[ +a ; ] then L[ +\"b~c;~fi ] M ] ]"},
		{"a=$(b; c) d", "L[ +S[ X[ a=$(b;~c) ] @d ] ]"},
		{"a $(b; c", "L[ +S[ @a @$(b;~c ] ]"},
		{"{ a `b }", "L[ +B[ { L[ +S[ @a @`b~} ] ] M ] ]"},
		{"a ${b c", "L[ +S[ @a @${b~c ] ]"},
		{"(a $((1 + 2", "L[ +U[ ( L[ +S[ @a @$((1~+~2 ] ] M ] ]"},
		{"a>'f", "L[ +S[ @a R[ > @'f ] ] ]"},
		{"a='b c", "L[ +S[ X[ a='b~c ] ] ]"},
		{"a \\", "L[ +S[ @a @\\ ] ]"},
		{"case 'a in b) c;; esac", "L[ +C[ case @'a~in~b)~c;;~esac M M ] ]"},
		// here-documents
		{"cat <<E", "L[ +S[ @cat R[ << @E ] ] ]"},
		{"cat <<E\n", "L[ +S[ @cat R[ << @E ] ] NL ]"},
		{"cat <<E\nx )\nE\nb", "L[ +S[ @cat R[ << @E ] ] NL +b ]"},
		{"cat <<E\nx )\n", "L[ +S[ @cat R[ << @E ] ] NL ]"},
		{"cat <<E; a\nfi\nE\n", "L[ +S[ @cat R[ << @E ] ] ; +a NL ]"},
		{"cat 0<<-E <<F &&\n\tE\n;\nF\na", "L[ A[ -S[ @cat R[ #0 <<- @E ] R[ << @F ] ] && NL -a ] ]"},
		{"cat <<\nE", "L[ +S[ @cat R[ << M ] ] NL +E ]"},
		{"{ cat <<'E'\n}\nE\n}", "L[ +B[ { L[ +S[ @cat R[ << @'E' ] ] NL ] } ] ]"},
		{"if a <<E\nthen\nE\nthen b\nfi", "L[ +F[ if L[ +S[ @a R[ << @E ] ] NL ] then L[ +b NL ] fi ] ]"},
		// operators
		{"a&&b||c|d&e;f", "L[ A[ -a && -b || I[ .c | .d ] ] & +e ; +f ]"},
		{"a;;", "L[ +a ] E[ ;; ]"},
		{"a;;;", "L[ +a ] E[ ;; ] E[ ; ]"},
		{"a; ;", "L[ +a ; ] E[ ; ]"},
		{"a|||b", "L[ A[ -a || M ] ] E[ | ] L[ +b ]"},
		{"a<<<b", "L[ +S[ @a R[ << M ] R[ < @b ] ] ]"},
		{"1<2>3", "L[ +S[ R[ #1 < M ] R[ #2 > @3 ] ] ]"},
		{"&a", "E[ & ] L[ +a ]"},
		// any bytes
		{"\x00;\xff", "L[ +\x00 ; +\xff ]"},
		{"\xff=1 \xfe", "L[ +S[ @\xff=1 @\xfe ] ]"},
	} {
		leaves, l := parse.Of(c[0])
		drawnLeaves, want := drawn(c[1])
		tokens, _ := token.Lex(c[0])
		if all := token.Leaves(c[0], tokens); !slices.Equal(leaves, all) {
			t.Errorf("Of(%q): %v, not %v", c[0], leaves, all)
		}
		if !slices.Equal(texts(leaves), texts(drawnLeaves)) || !slices.Equal(l, want) {
			t.Errorf("Of(%q): %q, %s, not %q, %s", c[0], texts(leaves), tree.Show(l), texts(drawnLeaves), tree.Show(want))
		}
		checked(t, leaves)
	}
}

// P13.1: Begins at every sign, alone, with another leaf behind it, and of kinds that there aren't.
func TestBegins(t *testing.T) {
	of := strings.Fields("NL ; & | ( ) && || ;; << > #1 ! { } if then elif else fi while until do done for in case esac x a=1 'q' ##x")
	for _, s := range of {
		f := leaf(s)
		begins := strings.IndexByte("!x<{(iwrc", rules.Sign(f)) >= 0
		for _, other := range append(of, "") {
			leaves := leavesOf(s + " " + other)
			want := begins || f.Kind == api.TokNumber && slices.Contains([]string{"<<", ">"}, other)
			if got := parse.Begins(leaves, 0); got != want {
				t.Errorf("Begins(%q, 0): %t", texts(leaves), got)
			}
			if got := parse.Begins(append(leavesOf("a ; {"), leaves...), 3); got != want {
				t.Errorf("Begins(a ; { %q, 3): %t", texts(leaves), got)
			}
			for at := -2; at <= len(leaves)+2; at++ {
				asked(t, leaves, at)
			}
		}
	}
	for _, f := range []api.Leaf{{}, {Text: "x"}, {Kind: api.TokBlank, Text: " "}, {Kind: api.TokComment, Text: "#"}, {Kind: api.TokHere, Text: "x"}, {Kind: api.TokOper, Text: "x"}, {Kind: api.TokOper, Text: "<<<"}, {Kind: 99, Text: "{"}, {Kind: -1, Text: "x"}} {
		if parse.Begins([]api.Leaf{f}, 0) {
			t.Errorf("Begins(%v)", f)
		}
	}
	for _, f := range []api.Leaf{{Kind: api.TokWord}, {Kind: api.TokWord, Text: "\n"}, {Kind: api.TokWord, Text: ";"}, {Kind: api.TokWord, Text: " {"}} {
		if !parse.Begins([]api.Leaf{f}, 0) {
			t.Errorf("Begins(%v)", f)
		}
	}
	for _, at := range append(far, 1, 2, 3) {
		for _, leaves := range [][]api.Leaf{nil, {}, leavesOf("a"), leavesOf("#1"), leavesOf("{")} {
			if l, end := parse.Command(leaves, at); parse.Begins(leaves, at) || l != nil || end != 0 {
				t.Errorf("%q has no leaf %d", texts(leaves), at)
			}
		}
	}
}

// P13.1: the AndOr that is made at a leaf, by hand: its text (layer 11), the next leaf behind it; an empty text is none.
func TestCommand(t *testing.T) {
	for _, c := range []struct {
		leaves string
		at     int
		tree   string
		end    int
	}{
		{"a", 0, "A0-1(I0-1(S0-1(W0-1)))", 1},
		{"a ; b ; c", 2, "A2-3(I2-3(S2-3(W2-3)))", 3},
		{"a ; b && c NL d", 2, "A2-5(I2-3(S2-3(W2-3)) I4-5(S4-5(W4-5)))", 5},
		{"a b c", 1, "A1-3(I1-3(S1-3(W1-2 W2-3)))", 3},
		{"a > f", 1, "A1-3(I1-3(S1-3(R1-3(W2-3))))", 3},
		{"a #2 > f", 1, "A1-4(I1-4(S1-4(R1-4(W3-4))))", 4},
		{"a #2 > f", 2, "A2-4(I2-4(S2-4(R2-4(W3-4))))", 4},
		{"! a | b ; c", 0, "A0-4(I0-4(S1-2(W1-2) S3-4(W3-4)))", 4},
		{"! a | b ; c", 1, "A1-4(I1-4(S1-2(W1-2) S3-4(W3-4)))", 4},
		{"! a | b ; c", 3, "A3-4(I3-4(S3-4(W3-4)))", 4},
		{"a && NL NL", 0, "A0-4(I0-1(S0-1(W0-1)) M4-4)", 4},
		{"a && NL ; b", 0, "A0-3(I0-1(S0-1(W0-1)) M3-3)", 3},
		{"a | ) b", 0, "A0-2(I0-2(S0-1(W0-1) M2-2))", 2},
		{"! NL a", 0, "A0-1(I0-1(M1-1))", 1},
		{"{ a ; } b", 0, "A0-4(I0-4(B0-4(L1-3(A1-2(I1-2(S1-2(W1-2)))))))", 4},
		{"{ a ; } b", 4, "A4-5(I4-5(S4-5(W4-5)))", 5},
		{"{ a ; } b", 1, "A1-2(I1-2(S1-2(W1-2)))", 2},
		{"if a ; then", 0, "A0-4(I0-4(F0-4(L1-3(A1-2(I1-2(S1-2(W1-2)))) M4-4 M4-4)))", 4},
		{"x f ( ) ( a ) b", 1, "A1-7(I1-7(N1-7(W1-2 U4-7(L5-6(A5-6(I5-6(S5-6(W5-6))))))))", 7},
		{"x f ( ) ( a ) b", 0, "A0-2(I0-2(S0-2(W0-1 W1-2)))", 2},
		{"x f ( ) ( a ) b", 2, "A2-4(I2-4(U2-4(M3-3)))", 4},
		{"NL a NL", 0, "", 0},
		{"NL a NL", 1, "A1-2(I1-2(S1-2(W1-2)))", 2},
		{"NL a NL", 2, "", 0},
		{"a ) b", 1, "", 0},
		{"a ; b", 1, "", 0},
		{"fi a", 0, "", 0},
		{"#2 a > b", 0, "", 0},
		{"#2", 0, "", 0},
		{"a", 1, "", 0},
		{"a", -1, "", 0},
		{"", 0, "", 0},
	} {
		leaves := leavesOf(c.leaves)
		l, end := parse.Command(leaves, c.at)
		if got := shown(l); got != c.tree || end != c.end {
			t.Errorf("Command(%s, %d): %s, %d, not %s, %d", c.leaves, c.at, got, end, c.tree, c.end)
		}
		if got := parse.Begins(leaves, c.at); got != (c.tree != "") {
			t.Errorf("Begins(%s, %d): %t", c.leaves, c.at, got)
		}
		asked(t, leaves, c.at)
	}
}

// shown is the text of a row of its own that need not begin at the first leaf.
func shown(l []api.Node) string {
	if len(l) == 0 {
		return ""
	}
	if l[0].Up != -1 {
		return "it has something above it"
	}
	around := tree.Hang([]api.Node{{Kind: api.NodeProgram, To: l[0].To, Up: -1}}, l, 0)
	s := tree.Show(around)
	return strings.TrimSuffix(s[strings.IndexByte(s, '(')+1:], ")")
}

// P13.1: Clean and Faults of any rows of nodes.
func TestFaults(t *testing.T) {
	node := func(kinds ...int) (all []api.Node) {
		for _, kind := range kinds {
			all = append(all, api.Node{Kind: kind})
		}
		return all
	}
	odd := node(17, 5, 18)
	for i := range odd {
		odd[i] = api.Node{Kind: odd[i].Kind, From: math.MaxInt, To: math.MinInt, Up: math.MaxInt - i}
	}
	for _, c := range []struct {
		l    []api.Node
		want []int
	}{
		{nil, nil},
		{[]api.Node{}, nil},
		{node(1), nil},
		{node(1, 2, 3, 4, 5, 6, 7, 8, 9, 10, 11, 12, 13, 14, 15, 16), nil},
		{node(17), []int{0}},
		{node(18), []int{0}},
		{node(17, 1), []int{0}},
		{node(18, 1, 2), []int{0}},
		{node(1, 17), []int{1}},
		{node(1, 2, 18), []int{2}},
		{node(1, 17, 2, 18, 18, 3), []int{1, 3, 4}},
		{node(18, 17, 18, 17), []int{0, 1, 2, 3}},
		{node(0, 19, -1, -17, -18, math.MaxInt, math.MinInt, 256+17, 1<<32+18), nil},
		{odd, []int{0, 2}},
		{append(node(make([]int, 5000)...), node(17)...), []int{5000}},
	} {
		was := slices.Clone(c.l)
		if got := parse.Faults(c.l); !slices.Equal(got, c.want) {
			t.Errorf("Faults(%v): %v, not %v", c.l, got, c.want)
		}
		if got := parse.Clean(c.l); got != (len(c.want) == 0) {
			t.Errorf("Clean(%v): %t", c.l, got)
		}
		if !slices.Equal(c.l, was) {
			t.Errorf("%v was %v", c.l, was)
		}
	}
	for kind := -3; kind < 40; kind++ {
		want := kind == api.NodeError || kind == api.NodeMissing
		if parse.Clean(node(1, kind)) == want || slices.Contains(parse.Faults(node(1, kind)), 1) != want {
			t.Errorf("the kind %d", kind)
		}
	}
}
