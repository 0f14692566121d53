package parse_test

import (
	"math"
	"slices"
	"strings"
	"testing"

	"quillwort/api"
	"quillwort/parse"
	"quillwort/rules"
	"quillwort/tree"
)

// letters are the Kinds' letters as layer 11 lists them, from 1 on.
const letters = "PLAISXWRBUFHOCTNEM"

// far are numbers outside of any row.
var far = []int{math.MinInt, math.MinInt + 1, -api.MaxText, -3, -2, -1, 1 << 40, math.MaxInt - 1, math.MaxInt}

// opers are the operators' texts; reserved are the reserved words, of layer 4.
var (
	opers    = strings.Fields("&& || ;; << <<- >> <& >& <> >| < > & ; | ( )")
	reserved = strings.Fields("! { } case do done elif else esac fi for if in then until while")
)

// leaf is a leaf by its text: NL is a Newline; a Number is written with # ahead, a comment with two; in a Word ~ is a space, and ^ a newline.
func leaf(s string) api.Leaf {
	switch {
	case s == "NL":
		return api.Leaf{Kind: api.TokNewline, Text: "\n"}
	case slices.Contains(opers, s):
		return api.Leaf{Kind: api.TokOper, Text: s}
	case strings.HasPrefix(s, "##"):
		return api.Leaf{Kind: api.TokComment, Text: s[1:]}
	case strings.HasPrefix(s, "#"):
		return api.Leaf{Kind: api.TokNumber, Text: s[1:]}
	}
	return api.Leaf{Kind: api.TokWord, Text: strings.NewReplacer("~", " ", "^", "\n").Replace(s)}
}

// leavesOf is leaves by their texts, with spaces between them.
func leavesOf(s string) (all []api.Leaf) {
	for _, text := range strings.Fields(s) {
		all = append(all, leaf(text))
	}
	return all
}

// texts are leaves' texts.
func texts(leaves []api.Leaf) (all []string) {
	for _, f := range leaves {
		all = append(all, f.Text)
	}
	return all
}

// drawer makes leaves and a tree of a drawing.
type drawer struct {
	leaves   []api.Leaf
	nodes    []api.Node
	up       int
	brackets []int // how many nodes each bracket shuts
}

// drawn is the leaves and the tree of a drawing. Within a Program that isn't written, it has nodes, as a letter and brackets around what they are made of, leaves, and M, a Missing. @ ahead of a leaf is a Word of it, a point a Simple of one Word; - ahead of a node is a Pipe of that alone, + an AndOr of such a Pipe alone; ahead of a leaf they are such of a Simple of one Word.
func drawn(s string) ([]api.Leaf, []api.Node) {
	d := drawer{up: -1}
	d.open("P")
	for _, piece := range strings.Fields(s) {
		d.put(piece)
	}
	d.shut(1)
	if len(d.brackets) > 0 || d.up != -1 {
		panic("no drawing: " + s)
	}
	return d.leaves, d.nodes
}

// open begins nodes by their letters, each below the one ahead.
func (d *drawer) open(of string) {
	for _, b := range []byte(of) {
		d.nodes = append(d.nodes, api.Node{Kind: strings.IndexByte(letters, b) + 1, From: len(d.leaves), Up: d.up})
		d.up = len(d.nodes) - 1
	}
}

// shut ends as many nodes.
func (d *drawer) shut(n int) {
	for range n {
		d.nodes[d.up].To = len(d.leaves)
		d.up = d.nodes[d.up].Up
	}
}

// put puts a piece of a drawing behind what is there.
func (d *drawer) put(piece string) {
	around := map[byte]string{'+': "AI", '-': "I", '.': "", '@': ""}
	above, short := around[piece[0]]
	rest := piece
	if short && len(piece) > 1 {
		rest = piece[1:]
	}
	switch {
	case piece == "]":
		last := len(d.brackets) - 1
		d.shut(d.brackets[last])
		d.brackets = d.brackets[:last]
	case piece == "M":
		d.open("M")
		d.shut(1)
	case len(rest) == 2 && rest[1] == '[' && strings.Contains(letters, rest[:1]):
		d.open(above + rest[:1])
		d.brackets = append(d.brackets, len(above)+1)
	case short:
		if piece[0] != '@' {
			above += "S"
		}
		d.open(above + "W")
		d.leaves = append(d.leaves, leaf(rest))
		d.shut(len(above) + 1)
	default:
		d.leaves = append(d.leaves, leaf(piece))
	}
}

// asDrawn checks that each drawing's tree is the one of its leaves, and all else that is told of such a tree.
func asDrawn(t *testing.T, drawings ...string) {
	t.Helper()
	for _, s := range drawings {
		leaves, want := drawn(s)
		if got := parse.Parse(leaves); !slices.Equal(got, want) {
			t.Errorf("Parse(%q), %s: %s, not %s", texts(leaves), s, tree.Show(got), tree.Show(want))
			continue
		}
		clean := !strings.Contains(" "+s+" ", " M ") && !strings.Contains(s, "E[")
		if got := parse.Clean(want); got != clean {
			t.Errorf("Clean of %s: %t", s, got)
		}
		if got := rules.Right(leaves, want); got != clean {
			t.Errorf("%s is a derivation: %t", s, got)
		}
		checked(t, leaves)
	}
}

// each is a drawing with each of these in it, where it has a $.
func each(s string, of ...string) (all []string) {
	for _, x := range of {
		all = append(all, strings.ReplaceAll(s, "$", x))
	}
	return all
}

// separators are what may part two commands; lines are newlines that may stand where newlines may.
var (
	separators = []string{";", "&", "NL", "; NL", "& NL", "; NL NL NL", "& NL NL", "NL NL", "NL NL NL"}
	lines      = []string{"", "NL", "NL NL NL"}
)

// idle are leaves at which nothing begins.
var idle = strings.Fields("; & | ) && || ;; #1 ##x } then elif else fi do done in esac")

// compounds are drawings of each compound, heads of each other command.
var (
	compounds = []string{
		"B[ { L[ +a ; ] } ]",
		"U[ ( L[ +a ] ) ]",
		"F[ if L[ +a ; ] then L[ +b ; ] fi ]",
		"H[ while L[ +a ; ] do L[ +b ; ] done ]",
		"H[ until L[ +a ; ] do L[ +b ; ] done ]",
		"O[ for @a do L[ +b ; ] done ]",
		"C[ case @a in T[ @b ) L[ +c ] ] ;; esac ]",
	}
	heads = []string{"S[ @a ]", "S[ X[ a=1 ] ]", "S[ R[ > @f ] ]", "S[ R[ #2 << @f ] @a ]", "N[ @f ( ) B[ { L[ +a ; ] } ] ]"}
)

// P13.1: of a Program: nothing, newlines, Lists, and leaves at which nothing begins.
func TestProgram(t *testing.T) {
	asDrawn(t,
		"", "NL", "NL NL NL", "L[ +a ]", "NL L[ +a ]", "NL NL L[ +a NL NL ]",
		"E[ ) ]", "E[ ) ] NL", "NL E[ ) ]", "NL E[ ) ] NL NL E[ ;; ] NL", "E[ ) ] E[ ) ] E[ ) ]",
		"E[ ) ] L[ +a ]", "E[ ) ] NL NL L[ +a ]", "E[ ) ] E[ | ] L[ +a ; NL ]", "NL E[ ) ] NL L[ +a ]",
		"L[ +a ] E[ ) ] L[ +b ]", "L[ +a NL ] E[ ) ] NL L[ +b ]", "L[ +a NL NL ] E[ ) ] E[ ) ] NL NL L[ +b ] E[ ;; ] L[ +c ]",
		"L[ +a ] E[ ) ]", "L[ +a ; NL ] E[ ) ] NL", "L[ +a ; ] E[ ) ] E[ ) ]",
	)
	brace := "+B[ { L[ +a ; ] } ]"
	for _, x := range idle {
		asDrawn(t, each("E[ $ ] L[ +a ]", x)...)
		asDrawn(t, each("E[ $ ]", x)...)
		asDrawn(t, each("NL E[ $ ] NL L[ +a ]", x)...)
		asDrawn(t, each("E[ $ ] E[ $ ] NL E[ $ ]", x)...)
		asDrawn(t, each("L[ +a ; ] E[ $ ] L[ +b ; ] E[ $ ] L[ +c ]", x)...)
		asDrawn(t, each("L[ +a & NL ] E[ $ ] NL L[ +b NL ] E[ $ ]", x)...)
		asDrawn(t, each("L[ "+brace+" NL ] E[ $ ] L[ "+brace+" ]", x)...)
		if !strings.Contains("; & | && ||", x) {
			asDrawn(t, each("L[ "+brace+" ] E[ $ ] L[ +b ]", x)...)
			asDrawn(t, each("L[ "+brace+" ] E[ $ ] NL E[ $ ] L[ +b ]", x)...)
		}
	}
}

// P13.1: two commands with no separator between them.
func TestNoSeparator(t *testing.T) {
	brace := "+B[ { L[ +a ; ] } ]"
	asDrawn(t,
		"L[ "+brace+" ] E[ b ]",
		"L[ "+brace+" ] E[ b ] L[ +c ]",
		"L[ "+brace+" ] E[ b ] L[ +S[ @c @d ] ; +e ]",
		"L[ "+brace+" ] E[ b ] NL L[ +c ]",
		"L[ "+brace+" ] E[ { ] L[ +b ; ] E[ } ]",
		"L[ "+brace+" ] E[ ! ] L[ +b ]",
		"L[ "+brace+" ] E[ ( ] L[ +b ] E[ ) ]",
		"L[ +1 ] E[ ( ] L[ +b ] E[ ) ]",
		"L[ "+brace+" ; "+brace+" ] E[ if ] L[ +b ; ] E[ then ] L[ +c ; ] E[ fi ]",
		"L[ "+brace+" ] E[ f ] L[ +U[ ( M ) ] ] E[ { ] L[ +b ; ] E[ } ]",
		"L[ A[ -B[ { L[ +a ; ] } ] && -B[ { L[ +a ; ] } ] ] ] E[ b ]",
		"L[ +B[ { L[ +B[ { L[ +a ; ] } ] ] M ] ] E[ b ] L[ +S[ @c @} ] ]",
	)
	for _, c := range compounds {
		asDrawn(t, "L[ +"+c+" ] E[ x ]", "L[ +"+c+" ] E[ x ] L[ +"+c+" ]", "L[ +"+c+" ] E[ #1 ]", "L[ +"+c+" ] E[ ! ] L[ +"+c+" ]")
	}
}

// P13.1: of a List: separators, and what follows them.
func TestList(t *testing.T) {
	for _, s := range separators {
		asDrawn(t, each("L[ +a $ ]", s)...)
		asDrawn(t, each("L[ +a $ +b ]", s)...)
		asDrawn(t, each("NL L[ +a $ +b $ +c $ ]", s)...)
		asDrawn(t, each("L[ +a $ ] E[ ) ]", s)...)
		asDrawn(t, each("L[ +a $ ] E[ ; ] NL L[ +b $ ] E[ & ]", s)...)
		asDrawn(t, each("L[ +U[ ( NL L[ +a $ +b $ ] ) ] ]", s)...)
		asDrawn(t, each("L[ +U[ ( L[ +a $ ] M ] & ] E[ ) ]", s)...)
		for _, c := range append(heads, compounds...) {
			asDrawn(t, "L[ +"+c+" "+s+" +"+c+" ]", "L[ +a "+s+" A[ I[ ! "+c+" ] ] "+s+" ]")
		}
		for _, x := range idle {
			asDrawn(t, "L[ +a "+s+" ] E[ "+x+" ]")
		}
	}
	asDrawn(t,
		"L[ +a ; +b & +c NL +d ; NL +e & NL NL +f NL NL +g ; ]",
		"L[ +a ] E[ ;; ]", "L[ +a ] E[ ) ]", "L[ +a ] E[ #1 ]", "L[ +a ] E[ ##x ] L[ +b ]",
		"L[ +a NL ] E[ ; ] L[ +b ]", "L[ +a ; ] E[ ; ]", "L[ +a & ] E[ ; ]", "L[ +a ; NL ] E[ & ] NL L[ +b ]",
		"L[ +a ; A[ I[ ! M ] ] ]", "L[ A[ I[ ! M ] ] ; +a ]",
	)
}

// P13.1: of an AndOr: its Pipes, newlines behind each sign, and nothing behind it.
func TestAndOr(t *testing.T) {
	for _, op := range []string{"&&", "||"} {
		for _, n := range lines {
			at := op + " " + n
			asDrawn(t, each("L[ A[ -a $ -b ] ]", at)...)
			asDrawn(t, each("L[ A[ -a $ -b $ -c || -d && -e ] ; +f ]", at)...)
			asDrawn(t, each("L[ A[ -a $ M ] ]", at)...)
			asDrawn(t, each("L[ A[ -a $ M ] ] E[ ) ]", at)...)
			asDrawn(t, each("L[ A[ -a $ M ] ; +b ]", at)...)
			asDrawn(t, each("L[ A[ -a $ M && -b || M ] & ]", at)...)
			asDrawn(t, each("L[ A[ -a $ M $ M $ M ] ]", at)...)
			asDrawn(t, each("L[ A[ I[ ! M ] $ I[ ! .b ] ] ]", at)...)
			asDrawn(t, each("L[ A[ I[ .a | M ] $ I[ .b | .c ] ] ]", at)...)
			asDrawn(t, each("L[ +U[ ( L[ A[ -a $ M ] ] ) ] ]", at)...)
			for _, c := range append(heads, compounds...) {
				asDrawn(t, "L[ A[ -"+c+" "+at+" -"+c+" ] ]", "L[ A[ -a "+at+" I[ ! "+c+" | "+c+" ] ] ; ]")
			}
			for _, x := range idle {
				if !strings.Contains("; & | && ||", x) {
					asDrawn(t, "L[ A[ -a "+at+" M ] ] E[ "+x+" ]")
				}
			}
		}
		asDrawn(t, each("E[ $ ] L[ +a ]", op)...)
		asDrawn(t, each("L[ +a NL ] E[ $ ] NL L[ +b ]", op)...)
		asDrawn(t, each("L[ +a ; ] E[ $ ]", op)...)
	}
	asDrawn(t, "L[ A[ -a && M ] ] E[ | ] L[ +b ]")
}

// P13.1: of a Pipe: !, its commands, newlines behind each |, and nothing behind it.
func TestPipe(t *testing.T) {
	for _, n := range lines {
		bar := "| " + n
		asDrawn(t, each("L[ A[ I[ .a $ .b ] ] ]", bar)...)
		asDrawn(t, each("L[ A[ I[ ! .a $ .b $ .c | .d ] ] NL +e ]", bar)...)
		asDrawn(t, each("L[ A[ I[ .a $ M ] ] ]", bar)...)
		asDrawn(t, each("L[ A[ I[ .a $ M ] ] ; ]", bar)...)
		asDrawn(t, each("L[ A[ I[ .a $ M | .b $ M ] && -c ] ]", bar)...)
		asDrawn(t, each("L[ A[ I[ .a $ M $ M ] ] ] E[ ) ]", bar)...)
		asDrawn(t, each("L[ A[ I[ ! M $ .b ] ] ]", bar)...)
		asDrawn(t, each("L[ A[ I[ ! M $ M ] ] ]", bar)...)
		asDrawn(t, each("L[ A[ I[ .a $ M ] ] ] E[ ! ] L[ +b ]", bar)...)
		asDrawn(t, each("L[ A[ I[ .a $ M ] ] ] E[ ! ] NL", bar)...)
		for _, c := range append(heads, compounds...) {
			asDrawn(t, "L[ A[ I[ "+c+" "+bar+" "+c+" ] ] ]", "L[ A[ I[ ! .a "+bar+" "+c+" | .b ] ] ]")
		}
		for _, x := range idle {
			if !strings.Contains("; & | && ||", x) {
				asDrawn(t, "L[ A[ I[ .a "+bar+" M ] ] ] E[ "+x+" ]")
			}
		}
	}
	asDrawn(t,
		"L[ A[ I[ ! M ] ] ]", "L[ A[ I[ ! M ] ] NL NL +a ]", "L[ A[ I[ ! M ] ] ; ]", "L[ A[ I[ ! M ] ] ] E[ ! ] L[ +a ]", "L[ A[ I[ ! M ] ] ] E[ ! ] L[ A[ I[ ! .a ] ] ]",
		"L[ A[ I[ ! M ] ] ] E[ ) ]", "L[ A[ I[ ! M ] ] ] E[ } ]", "L[ A[ I[ ! M ] ] ] E[ #2 ] L[ +a ]", "L[ A[ I[ ! S[ R[ #2 > @f ] ] ] ] ]",
		"L[ +S[ @a @! ] ]", "E[ | ] L[ +a ]", "L[ +a ; ] E[ | ] L[ A[ I[ .b | .c ] ] ]",
		"L[ +B[ { L[ A[ I[ ! M ] ] ] } ] ]",
	)
	for _, c := range append(heads, compounds...) {
		asDrawn(t, "L[ +"+c+" ]", "L[ A[ I[ ! "+c+" ] ] ]")
	}
}

// P13.1: which command begins at a name, at what is none, and at reserved words, with ( behind it and with something else.
func TestCommandBegins(t *testing.T) {
	for _, name := range []string{"f", "F", "x9", "_", "_0", "iff", "If", "done_", strings.Repeat("f", 300)} {
		asDrawn(t, each("L[ +N[ @$ ( ) B[ { L[ +a ; ] } ] ] ]", name)...)
		asDrawn(t, each("L[ +N[ @$ ( M M ] ]", name)...)
		asDrawn(t, each("L[ +$ ]", name)...)
		asDrawn(t, each("L[ +$ NL +U[ ( L[ +a ] ) ] ]", name)...)
		asDrawn(t, each("L[ +$ ] E[ ) ]", name)...)
		asDrawn(t, each("L[ +S[ @$ @a ] ] E[ ( ] E[ ) ]", name)...)
		asDrawn(t, each("L[ +S[ @a @$ ] ] E[ ( ] E[ ) ]", name)...)
		asDrawn(t, each("L[ A[ -$ && -$ ] ]", name)...)
		asDrawn(t, each("L[ A[ I[ ! N[ @$ ( ) U[ ( L[ +$ ] ) ] ] | N[ @$ ( ) U[ ( L[ +$ ] ) ] ] ] ] ]", name)...)
		asDrawn(t, each("L[ +S[ @$ R[ > @f ] ] ]", name)...)
	}
	for _, other := range []string{"1", "1f", "f-1", "f.", "'f'", `\f`, `"f"`, "$f", "é", "f=", "-", "[", "f~", "~f", "if'", "fé", "f\x00"} {
		if !strings.HasSuffix(other, "=") {
			asDrawn(t, "L[ +"+other+" ] E[ ( ] E[ ) ] L[ +B[ { L[ +a ; ] } ] ]", "L[ +"+other+" ] E[ ( ] L[ +a ] E[ ) ]", "L[ +"+other+" ]")
			continue
		}
		asDrawn(t, "L[ +S[ X[ "+other+" ] ] ] E[ ( ] E[ ) ]")
	}
	for _, x := range strings.Fields("} then elif else fi do done in esac") {
		asDrawn(t, each("E[ $ ] L[ +U[ ( M ) ] ]", x)...)
		asDrawn(t, each("L[ +a ; ] E[ $ ] L[ +b ]", x)...)
		asDrawn(t, each("L[ A[ -a && M ] ] E[ $ ] L[ +U[ ( L[ +b ] ) ] ]", x)...)
	}
	asDrawn(t,
		"L[ A[ I[ ! U[ ( M ) ] ] ] ]",
		"L[ +B[ { L[ +U[ ( M ) ] ] M ] ]",
		"L[ +F[ if L[ +U[ ( M ) ] ] M M M ] ]",
		"L[ +H[ while L[ +U[ ( M ) ] ] M M M ] ]",
		"L[ +O[ for M M L[ +U[ ( M ) ] ] M ] ]",
		"L[ +C[ case M M T[ ( M ) ] M ] ]",
		"L[ +S[ R[ > @f ] ] ] E[ ( ] E[ ) ]",
		"L[ +S[ X[ a=1 ] @f ] ] E[ ( ] E[ ) ]",
	)
}

// P13.1: of a Simple: what of it is an Assign, what a Word, what a Redirect, and where it ends.
func TestSimple(t *testing.T) {
	asDrawn(t,
		"L[ +S[ X[ a=1 ] ] ]", "L[ +S[ X[ a=1 ] X[ b= ] X[ _9==x=y ] ] ]", "L[ +S[ X[ a=1 ] @b ] ]", "L[ +S[ X[ a=1 ] @b @c=1 ] ]", "L[ +S[ @b @c=1 @d @e= ] ]",
		"L[ +S[ R[ > @f ] X[ a=1 ] ] ]", "L[ +S[ R[ > @f ] X[ a=1 ] R[ #2 > @g ] X[ b=2 ] R[ < @h ] @c R[ #1 >& @2 ] @d=1 R[ << @E ] ] ]",
		"L[ +S[ R[ > @a=1 ] X[ b=2 ] ] ]", "L[ +S[ R[ > @a ] X[ b=2 ] @c ] ]", "L[ +S[ X[ a=1 ] R[ > @b=2 ] X[ c=3 ] @d R[ > @e=4 ] @f=5 ] ]",
		"L[ +S[ R[ > @f ] ] ]", "L[ +S[ R[ > @f ] R[ #2 > @g ] R[ > @h ] ] ]", "L[ +S[ R[ > M ] R[ > @f ] X[ a=1 ] ] ]", "L[ +S[ X[ a=1 ] R[ > M ] ] ; +b ]",
		"L[ +S[ @a R[ > @f ] @b R[ > @g ] R[ > @h ] @c ] ]",
	)
	for _, near := range []string{"1=2", "=1", "=", "a+=1", "'a'=1", `a\=1`, "a-b=c", "$a=1", "a", "a[1]=2", "é=1", "~a=1", "a~=1", "-=", "a\x00=1"} {
		asDrawn(t, "L[ +"+near+" ]", "L[ +S[ @"+near+" @a=1 ] ]", "L[ +S[ X[ b=2 ] @"+near+" @a=1 ] ]", "L[ +S[ R[ > @f ] @"+near+" R[ > @f ] @a=1 ] ]")
	}
	for _, is := range []string{"a=", "a=1", "A9_=b", "_=", "a==", "a=if", "a='b~c'", "if=1", "in=", "a=$(b)", "a=\xff", "a=\x00"} {
		asDrawn(t, "L[ +S[ X[ "+is+" ] ] ]", "L[ +S[ X[ "+is+" ] X[ "+is+" ] @b @"+is+" ] ]", "L[ +S[ @a @"+is+" ] ]")
	}
	for _, x := range reserved {
		asDrawn(t, "L[ +S[ @a @"+x+" ] ]", "L[ +S[ @a @"+x+" @"+x+" @b=1 ] ; +b ]", "L[ +S[ X[ a=1 ] @"+x+" ] ]", "L[ +S[ R[ > @f ] @"+x+" @a=1 ] ]", "L[ +S[ R[ > @"+x+" ] ] ]", "L[ +S[ R[ > @"+x+" ] X[ a=1 ] @"+x+" R[ #2 > @"+x+" ] ] ]", "L[ +B[ { L[ +S[ @a @"+x+" ] ; ] } ] ]")
	}
	asDrawn(t, "L[ +a ; +b & +c NL +d ]", "L[ A[ I[ .a | .b ] && -c || -d ] ]", "L[ +U[ ( L[ +a ] ) ] ]", "L[ +S[ @a @b ] ] E[ ( ] E[ ) ]", "L[ +a ] E[ ;; ]", "L[ +a ] E[ #2 ] L[ +b ]", "L[ +S[ @a R[ > @f ] ] ] E[ #2 ]", "L[ +a ] E[ ##x ] L[ +b ]")
}

// P13.1: of a Redirect: its Number, its operator, and its word.
func TestRedirect(t *testing.T) {
	for _, op := range strings.Fields("<< <<- >> <& >& <> >| < >") {
		asDrawn(t, each("L[ +S[ R[ $ @f ] ] ]", op)...)
		asDrawn(t, each("L[ +S[ R[ #2 $ @f ] ] ]", op)...)
		asDrawn(t, each("L[ +S[ @a R[ $ @f ] R[ #2 $ @g ] @b ] ]", op)...)
		asDrawn(t, each("L[ +S[ R[ $ M ] ] ]", op)...)
		asDrawn(t, each("L[ +S[ R[ #2 $ M ] ] ]", op)...)
		asDrawn(t, each("L[ +S[ @a R[ $ M ] ] NL +f ]", op)...)
		asDrawn(t, each("L[ +S[ R[ $ M ] R[ $ M ] R[ #2 $ @f ] R[ $ M ] ] ; ]", op)...)
		asDrawn(t, each("L[ +S[ R[ $ M ] ] ] E[ ) ]", op)...)
		asDrawn(t, each("L[ +S[ R[ $ M ] ] ] E[ #2 ] L[ +a ]", op)...)
		asDrawn(t, each("L[ +U[ ( L[ +S[ R[ $ M ] ] ] ) R[ $ M ] R[ #2 $ @f ] ] ]", op)...)
		asDrawn(t, each("L[ A[ -S[ R[ $ M ] ] && -S[ R[ #2 $ @f ] ] ] ]", op)...)
		asDrawn(t, each("E[ #1 ] L[ +S[ R[ #2 $ @f ] ] ]", op)...)
		asDrawn(t, each("L[ +a ] E[ #1 ] L[ +S[ R[ #2 $ @f ] ] ]", op)...)
		asDrawn(t, each("E[ #1 ] NL L[ +S[ R[ $ @f ] ] ]", op)...)
	}
	asDrawn(t, "E[ #2 ]", "E[ #2 ] E[ #2 ]", "E[ #2 ] L[ +a ]", "E[ #2 ] NL L[ +a ]", "L[ +a ; ] E[ #2 ]", "L[ +a ; ] E[ #2 ] E[ ; ] L[ +b ]", "L[ +S[ R[ > @2 ] R[ > @'f~g' ] ] ]")
}
