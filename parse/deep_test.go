package parse_test

import (
	"slices"
	"strings"
	"testing"

	"quillwort/api"
	"quillwort/parse"
	"quillwort/rules"
	"quillwort/tree"
)

// ways are drawings of nodes that count as deep, with a $ where one more may stand in an AndOr, and how many of those are above it.
var ways = []struct {
	drawing string
	count   int
}{
	{"B[ { L[ $ ; ] } ]", 1},
	{"U[ ( L[ $ ] ) ]", 1},
	{"F[ if L[ $ ; ] then L[ +b ; ] fi ]", 1},
	{"F[ if L[ +a ; ] then L[ $ ; ] fi ]", 1},
	{"F[ if L[ +a ; ] then L[ +b ; ] elif L[ $ ; ] then L[ +d ; ] fi ]", 1},
	{"F[ if L[ +a ; ] then L[ +b ; ] elif L[ +c ; ] then L[ $ ; ] fi ]", 1},
	{"F[ if L[ +a ; ] then L[ +b ; ] else NL L[ $ ; ] fi ]", 1},
	{"H[ while L[ $ NL ] do L[ +b ; ] done ]", 1},
	{"H[ until L[ +a ; ] do L[ $ ; ] done ]", 1},
	{"O[ for @a do L[ $ ; ] done ]", 1},
	{"O[ for @a in @b ; do L[ $ ; ] done R[ > @f ] ]", 1},
	{"C[ case @a in T[ @b ) L[ $ ] ] ;; esac ]", 1},
	{"C[ case @a in T[ @b ) ] ;; T[ ( @c ) NL L[ $ ; ] ] esac ]", 1},
	{"N[ @f ( ) B[ { L[ $ ; ] } ] ]", 2},
	{"N[ @f ( ) NL U[ ( L[ $ ] ) R[ #2 > @g ] ] ]", 2},
	{"N[ @f ( ) F[ if L[ $ ; ] then L[ +b ; ] fi ] ]", 2},
	{"N[ @f ( ) H[ while L[ $ ; ] do L[ +b ; ] done ] ]", 2},
	{"N[ @f ( ) O[ for @a do L[ $ ; ] done ] ]", 2},
	{"N[ @f ( ) C[ case @a in T[ @b ) L[ $ ; ] ] esac ] ]", 2},
}

// nested is a drawing with so many AndOrs around it, each of one command that is drawn so.
func nested(way, inner string, times int) string {
	ahead, behind, _ := strings.Cut("+"+way, "$")
	return strings.Repeat(ahead, times) + inner + strings.Repeat(behind, times)
}

// P13.1, P13.3: 199, 200 and 201 nodes that count as deep, each within the one ahead, of each kind; an Item, a Redirect and what else doesn't count.
func TestDeep(t *testing.T) {
	for _, way := range ways {
		for _, deep := range []int{1, 2, 199, 200, 201, 202, 240} {
			for _, inner := range []string{"+a", "+S[ X[ a=1 ] R[ > @f ] ]", "A[ I[ ! .a | .b ] && -c ]"} {
				for _, more := range []string{"", "+U[ ( L[ $ ] ) ]"} {
					s := inner
					times := deep
					if more != "" {
						times--
						s = strings.ReplaceAll(more, "$", inner)
					}
					if times%way.count != 0 {
						continue
					}
					leaves, want := drawn("L[ " + nested(way.drawing, s, times/way.count) + " ]")
					got := parse.Parse(leaves)
					if clean := slices.Equal(got, want); clean != (deep <= 200) || clean != parse.Clean(got) || clean != rules.Right(leaves, want) {
						t.Errorf("%s: %d deep: %t", way.drawing, deep, clean)
					}
					checked(t, leaves)
					for _, at := range []int{0, 1, 2, 3, len(leaves) / 2, len(leaves) - 1} {
						asked(t, leaves, at)
					}
				}
			}
		}
	}
}

// deepest is a drawing within so many Subshells.
func deepest(inner string, times int) string {
	return "L[ " + nested("U[ ( L[ $ ] ) ]", inner, times) + " ]"
}

// P13.1: what stands where 199 and 200 nodes count as deep, by hand.
func TestDeepest(t *testing.T) {
	for _, c := range compounds {
		asDrawn(t, deepest("+"+c, 199))
	}
	asDrawn(t,
		deepest("+a", 200), deepest("+S[ R[ > @f ] ]", 200), deepest("A[ I[ ! .a ] ]", 200), deepest("A[ I[ ! M ] ]", 200), deepest("+S[ @a @{ @if ]", 200), deepest("+f", 200), deepest("+S[ @a @f ]", 200),
		deepest("+N[ @f ( ) M ]", 199),
		deepest("+N[ @f ( ) B[ { L[ +a ; ] } ] ]", 198),
		deepest("A[ -N[ @f ( M NL M ] && -a ]", 199),
	)
	// a body of which none begins, and what stands behind it, so deep
	within := func(s string, times int) string {
		ahead := strings.Repeat("+U[ ( L[ ", times)
		return "L[ " + ahead + s + strings.Repeat(" ] M ]", times) + " ]"
	}
	lost := within("+U[ ( M M ]", 199) // the last body and its end lack
	asDrawn(t,
		lost+" E[ { ] L[ +a ; ] E[ } ]", lost+" E[ ( ] L[ +a ] E[ ) ]", lost+" E[ if ] L[ +a ; ] E[ then ] L[ +b ; ] E[ fi ]", lost+" E[ while ] L[ +a ; ] E[ do ] L[ +b ; ] E[ done ]", lost+" E[ for ] L[ +a ; ] E[ do ]", lost+" E[ case ] L[ +S[ @a @in ] ]",
		// a name with a ( behind it is a Simple there
		within("+f", 200)+" E[ ( ] E[ ) ] L[ +B[ { L[ +a ; ] } ] ]",
		within("A[ -a && -f ]", 200)+" E[ ( ] E[ ) ] L[ +U[ ( L[ +a ] ) ] ]",
		// a Function is there, but no compound in it
		within("+N[ @f ( ) M ]", 199)+" E[ { ] L[ +a ; ] E[ } ]",
		within("+N[ @f ( ) NL M ]", 199)+" E[ if ]",
		// nor behind a sign
		within("A[ I[ ! M ] ]", 200)+" E[ { ] L[ +a ; ] E[ } ]",
		within("A[ -a && NL M ]", 200)+" E[ ( ] L[ +a ] E[ ) ]",
		within("A[ I[ .a | M ] ]", 200)+" E[ if ] L[ +a ]",
		within("+a ;", 200)+" E[ { ] L[ +a ; ] E[ } ]",
		within("+a NL", 200)+" E[ case ]",
	)
	// what was made doesn't count any more
	asDrawn(t, deepest("+B[ { L[ +a ; ] } ] ; +B[ { L[ +a ; ] } ] NL +U[ ( L[ +a ] ) ]", 199), deepest("A[ -N[ @f ( ) B[ { L[ +a ; ] } ] ] && -N[ @f ( ) B[ { L[ +a ; ] } ] ] ]", 198), deepest("+a", 200)+" E[ ) ] "+deepest("+a", 200))
	for _, s := range []string{"{ a ; }", "( a )", "if a ; then b ; fi", "f ( ) { a ; }"} {
		leaves := slices.Concat(leavesOf(strings.Repeat("( ", 200)), leavesOf(s))
		if l, end := parse.Command(leaves, 200); !parse.Begins(leaves, 200) || end != len(leaves) || !parse.Clean(l) {
			t.Errorf("%s begins, whatever is ahead", s)
		}
	}
}

// P13.4: the depth's edge.
func TestDeepTogether(t *testing.T) {
	for deep := 197; deep <= 200; deep++ {
		a, _ := drawn(deepest("+a", deep))
		b, _ := drawn(deepest("+B[ { L[ +a ; ] } ] ; +b", deep-1))
		for _, leaves := range [][]api.Leaf{slices.Concat(a, leavesOf("NL"), b), slices.Concat(b, leavesOf("NL"), a), slices.Concat(a, leavesOf("NL"), a, leavesOf("NL"), b)} {
			if l := parse.Parse(leaves); !parse.Clean(l) || !rules.Right(leaves, l) {
				t.Errorf("two rows, %d deep", deep)
			}
		}
		for _, row := range [][]api.Leaf{a, b} {
			for _, around := range [][2]string{{"(", ")"}, {"{", "NL }"}} {
				leaves := slices.Concat(leavesOf(around[0]), row, leavesOf(around[1]))
				if got := parse.Clean(parse.Parse(leaves)); got != (deep < 200) {
					t.Errorf("%s around what is %d deep: %t", around[0], deep, got)
				}
				checked(t, leaves)
			}
		}
	}
}

// P13.1, P1: long rows, deep ones, and signs that come again and again.
func TestGreat(t *testing.T) {
	const many = 100000
	var of []string
	for range many / 10 {
		of = append(of, "a ; b && c | d NL { e ; } > f &")
	}
	leaves := leavesOf(strings.Join(of, " "))
	l := parse.Parse(leaves)
	if !parse.Clean(l) || !tree.Check(l, len(leaves)) || !rules.Right(leaves, l) || parse.Faults(l) != nil {
		t.Error("a long List")
	}
	if !slices.Equal(l, tellTree(leaves)) {
		t.Error("a long List isn't as it is told")
	}
	for _, s := range []string{"a", "a=1", "NL", "a ;", "a NL", "> a", "a |", "a &&", ")", "!", "{", "(", "if", "while", "for", "case", ">", "#1", "f (", "f ( )", "case a in", "case a in b )", "for a in b ;", ";", "! a |", "a ) ;"} {
		leaves := leavesOf(strings.Repeat(s+" ", many/2))
		l := parse.Parse(leaves)
		if clean := strings.Contains(" a a=1 NL a; aNL >a ", " "+strings.ReplaceAll(s, " ", "")+" "); parse.Clean(l) != clean || l[0].To != len(leaves) || !slices.Equal(l, tellTree(leaves)) {
			t.Errorf("%s, again and again, isn't as it is told", s)
		}
	}
	text := strings.Repeat("a;", api.MaxText/2)
	if leaves, l := parse.Of(text); len(leaves) != api.MaxText || len(l) != 2+4*len(leaves)/2 || !parse.Clean(l) {
		t.Errorf("a long text: %d leaves, %d nodes", len(leaves), len(l))
	}
	long := strings.Repeat("x", api.MaxText)
	if got := tree.Show(parse.Parse(leavesOf(long + "=" + long + " " + long + " ( " + long))); got != "P0-4(L0-2(A0-2(I0-2(S0-2(X0-1 W1-2)))) E2-3 L3-4(A3-4(I3-4(S3-4(W3-4)))))" {
		t.Errorf("long words: %s", got)
	}
}
