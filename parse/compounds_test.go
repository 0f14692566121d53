package parse_test

import (
	"strings"
	"testing"
)

// lacking checks a node of a letter with any of its pieces lacking: each is told as it is drawn where it is there, and where it isn't. It leaves out those rows of pieces that may tells not to be read so, and counts the others.
func lacking(t *testing.T, letter string, pieces [][2]string, may func(there []bool) bool) (count int) {
	t.Helper()
	for bits := range 1 << len(pieces) {
		var of []string
		there := make([]bool, len(pieces))
		for i, p := range pieces {
			there[i] = bits>>i&1 == 0
			if there[i] {
				of = append(of, p[0])
			} else {
				of = append(of, p[1])
			}
		}
		if may(there) {
			count++
			asDrawn(t, "L[ +"+letter+"[ "+strings.Join(of, " ")+" ] ]")
		}
	}
	return count
}

// redirected are Redirects behind a compound, and what may follow.
var redirected = []string{"R[ > @f ]", "R[ #2 > @f ]", "R[ > M ]", "R[ > @f ] R[ #2 << @E ] R[ < @} ]", "R[ #1 > M ] R[ > M ]"}

// P13.1: Redirects behind each compound, and things that are none.
func TestRedirected(t *testing.T) {
	for _, c := range compounds {
		inner := strings.TrimSuffix(c, " ]")
		for _, r := range redirected {
			asDrawn(t, "L[ +"+inner+" "+r+" ] ]", "L[ A[ I[ ! "+inner+" "+r+" ] | "+inner+" "+r+" ] ] && -"+inner+" "+r+" ] ] ; ]", "L[ +U[ ( L[ +"+inner+" "+r+" ] ] ) "+r+" ] ]", "L[ +N[ @f ( ) "+inner+" "+r+" ] ] ]")
		}
		asDrawn(t, "L[ +"+inner+" R[ > @f ] ] ] E[ b ]", "L[ +"+inner+" R[ > @f ] ] ] E[ a=1 ]", "L[ +"+c+" ] E[ #2 ]", "L[ +"+c+" ] E[ #2 ] E[ ; ] L[ +S[ R[ > @f ] ] ]", "L[ +"+inner+" R[ > @f ] ] ] E[ #2 ]", "L[ +"+c+" NL +S[ R[ > @f ] ] ]", "L[ +"+c+" ; +S[ R[ #2 > @f ] ] ]")
	}
	asDrawn(t,
		"L[ +U[ ( L[ +N[ @f ( ) M ] ] M R[ > @f ] ] ]",
		"L[ +B[ { L[ +N[ @f ( ) M ] ] M R[ #2 > @f ] R[ > M ] ] ]",
		"L[ +C[ case M M M R[ > @f ] ] ]", "L[ +C[ case @a M M R[ > @f ] ] ]", "L[ +C[ case @a in M R[ > @f ] ] ]",
		"L[ +C[ case @a in T[ @b ) ] ;; M R[ #2 > @f ] ] ]",
		"L[ +F[ if L[ +N[ @f ( ) M ] ] M L[ +S[ R[ > @f ] ] ] M ] ]",
		"L[ +O[ for M M L[ +S[ R[ > @f ] ] ] M ] ]", "L[ +O[ for @a M L[ +S[ R[ > @f ] ] ] M ] ]", "L[ +O[ for @a in M M L[ +S[ R[ > @f ] ] ] M ] ]",
		"L[ +O[ for @a do L[ +N[ @f ( ) M ] ] M R[ > @f ] ] ]",
	)
}

// P13.1: a body: newlines ahead of it, and each thing with which it begins; none of it.
func TestBody(t *testing.T) {
	for _, n := range lines {
		for _, c := range append(heads, compounds...) {
			l := n + " L[ +" + c + " ; ]"
			asDrawn(t, "L[ +B[ { "+l+" } ] ]", "L[ +U[ ( "+l+" ) ] ]", "L[ +F[ if "+l+" then "+l+" elif "+l+" then "+l+" else "+l+" fi ] ]", "L[ +H[ until "+l+" do "+l+" done ] ]", "L[ +O[ for @a do "+l+" done ] ]")
		}
		m := n + " M"
		asDrawn(t,
			"L[ +B[ { "+m+" } ] ]", "L[ +U[ ( "+m+" ) ] ]", "L[ +F[ if "+m+" then "+m+" elif "+m+" then "+m+" else "+m+" fi ] ]", "L[ +H[ while "+m+" do "+m+" done ] ]", "L[ +O[ for @a do "+m+" done ] ]",
			"L[ +B[ { "+m+" M ] ]", "L[ +U[ ( "+m+" M ] ]", "L[ +F[ if "+m+" M M M ] ]", "L[ +F[ if L[ +a ; ] then L[ +b ; ] elif "+m+" M M M ] ]", "L[ +F[ if L[ +a ; ] then L[ +b ; ] else "+m+" M ] ]", "L[ +H[ while "+m+" M M M ] ]", "L[ +O[ for @a do "+m+" M ] ]",
			"L[ +B[ { "+m+" M ] ; +a ]", "L[ +U[ ( "+m+" M ] ] E[ ;; ]", "L[ +F[ if "+m+" M M M ] & ]", "L[ +H[ while "+m+" M M M ] ] E[ } ]",
			"L[ +B[ { "+n+" L[ A[ I[ ! .a ] ] ; ] } ] ]", "L[ +B[ { "+n+" L[ A[ I[ ! M ] ] ; ] } ] ]", "L[ +U[ ( "+n+" L[ +S[ R[ #2 > @f ] ] ] ) ] ]",
		)
	}
	asDrawn(t, "L[ +U[ ( L[ +a ] ) ] ]", "L[ +U[ ( L[ +a NL NL ] ) ] ]", "L[ +B[ { L[ +a NL ] } ] ]", "L[ +B[ { L[ +a & ] } ] ]", "L[ +B[ { L[ +S[ @a @} ] ] M ] ]", "L[ +B[ { L[ +S[ @a @} ] ; ] } ] ]")
}

// P13.1: of a Brace and a Subshell each piece, and what lacks.
func TestEnclosed(t *testing.T) {
	any := func([]bool) bool { return true }
	if n := lacking(t, "B", [][2]string{{"{", "{"}, {"NL NL", ""}, {"L[ +a ; ]", "M"}, {"}", "M"}}, any); n != 16 {
		t.Error(n)
	}
	lacking(t, "U", [][2]string{{"(", "("}, {"NL", ""}, {"L[ +a ]", "M"}, {")", "M"}}, any)
	asDrawn(t,
		"L[ +B[ { L[ +a ] M ] ]", "L[ +B[ { L[ +a ; ] M ] ] E[ ) ]", "L[ +U[ ( L[ +a ; ] M ] ] E[ } ]", "L[ +U[ ( L[ +S[ @a @} ] ] ) ] ]", "L[ +U[ ( M M ] ] E[ } ]", "L[ +B[ { M M ] ] E[ ) ]",
		"L[ +B[ { L[ +U[ ( L[ +B[ { L[ +a ; ] } ] ] ) ] ] } ] ]", "L[ +B[ { L[ +B[ { L[ +a ; ] } ] ] } R[ > @f ] ] ]", "L[ +B[ { L[ +B[ { L[ +a ; ] } ] ; ] M ] ]", "L[ +U[ ( L[ +U[ ( L[ +a ] ) ] ] M ] ]",
		"L[ +U[ ( L[ +U[ ( M M ] ] M ] ]", "L[ +U[ ( L[ +U[ ( M ) ] ] ) ] ]", "L[ +U[ ( L[ +U[ ( M ) ] ] M ] ]",
		"L[ +B[ { M M ] ] E[ then ] L[ +a ; ] E[ } ]", "L[ +U[ ( M M ] ] E[ ;; ] L[ +a ] E[ ) ]", "L[ +U[ ( L[ +a ] M ] ] E[ ;; ] E[ ) ]",
		"L[ +U[ ( L[ +a ] M ] ] E[ #2 ] E[ ) ]", "L[ +B[ { M M ] ] E[ #2 ]", "L[ +U[ ( M M ] ; +a ] E[ ) ]", "L[ +B[ { M M ] & NL +a NL ] E[ } ]",
	)
}

// P13.1: of an If each piece, and what lacks.
func TestIf(t *testing.T) {
	pieces := [][2]string{{"if", "if"}, {"L[ +a ; ]", "M"}, {"then", "M"}, {"L[ +b ; ]", "M"}, {"fi", "M"}}
	plain := func(there []bool) bool { return there[2] || !there[1] || !there[3] } // else the one List goes on with the other
	if n := lacking(t, "F", pieces, func(there []bool) bool { return plain(there) && (there[1] || there[2] || !there[3]) }); n != 24 {
		t.Error(n)
	}
	more := append(pieces[:4:4], [][2]string{{"elif", "elif"}, {"NL L[ +c NL ]", "NL M"}, {"then", "M"}, {"L[ +d & ]", "M"}, {"else", "else"}, {"NL L[ +e ; ]", "NL M"}, {"fi", "M"}}...)
	lacking(t, "F", more, func(there []bool) bool {
		return plain(there) && (there[1] || there[2] || !there[3]) && (there[6] || !there[7])
	})
	asDrawn(t,
		"L[ +F[ if L[ +a ; +b ; ] M M fi ] ]", "L[ +F[ if L[ +a ; +b ; ] M M M ] ]", "L[ +F[ if M M M M ] ]", "L[ +F[ if M M M fi ] ]", "L[ +F[ if M then M M ] ]", "L[ +F[ if M then M fi ] ]", "L[ +F[ if L[ +a ] M M M ] ]", "L[ +F[ if L[ +S[ @a @then @b ] ; ] M M fi ] ]",
		"L[ +F[ if L[ +a ; ] then L[ +b ; ] elif L[ +c ; +d ; ] M M fi ] ]", "L[ +F[ if L[ +a ; ] then L[ +b ; ] elif M M M fi ] ]", "L[ +F[ if L[ +a ; ] then L[ +b ; ] elif M M M M ] ]",
		"L[ +F[ if L[ +a ; ] then L[ +b ; ] elif L[ +c ; ] then L[ +d ; ] elif L[ +e ; ] then L[ +g ; ] fi ] ]", "L[ +F[ if L[ +a ; ] then L[ +b ; ] elif M M M elif M M M else M M ] ]",
		"L[ +F[ if M M M elif M M M else M fi ] ]", "L[ +F[ if M M M else M fi ] ]", "L[ +F[ if L[ +a ; ] M M else L[ +b ; ] fi ] ]", "L[ +F[ if L[ +a ; ] M M elif L[ +b ; ] then L[ +c ; ] fi ] ]",
		"L[ +F[ if L[ +a ; ] then L[ +b ; ] else L[ +c ; ] M ] ] E[ else ] L[ +d ; ] E[ fi ]", "L[ +F[ if L[ +a ; ] then L[ +b ; ] else L[ +c ; ] M ] ] E[ elif ] L[ +d ; ] E[ then ] L[ +e ; ] E[ fi ]", "L[ +F[ if L[ +a ; ] then L[ +b ; ] else L[ +c ; ] M ] ] E[ then ] L[ +d ; ] E[ fi ]",
		"L[ +F[ if L[ +a ; ] then L[ +b ; ] M ] ] E[ then ] L[ +c ; ] E[ fi ]", "L[ +F[ if L[ +a ; ] then L[ +b ; ] M ] ] E[ done ]", "L[ +F[ if L[ +a ; ] M M M ] ] E[ do ] L[ +b ; ] E[ fi ]",
		"L[ +F[ if L[ +a NL ] then NL L[ +b NL ] elif NL L[ +c NL NL ] then NL NL L[ +d NL ] else NL L[ +e NL ] fi ] NL ]",
		"L[ +F[ if L[ +B[ { L[ +a ; ] } ] ] then L[ +B[ { L[ +a ; ] } ] ] fi ] ]", "L[ +F[ if L[ +B[ { L[ +a ; ] } ] ] M L[ +b ; ] fi ] ]", "L[ +F[ if L[ +B[ { L[ +a ; ] } ] ] M L[ +b ; ] elif L[ +B[ { L[ +a ; ] } ] ] M L[ +c ; ] else L[ +d ; ] fi ] ]",
		"L[ +F[ if L[ +F[ if L[ +a ; ] then L[ +b ; ] fi ] ; ] then L[ +F[ if L[ +a ; ] then L[ +b ; ] fi ] ; ] fi ] ]", "L[ +F[ if L[ +F[ if L[ +a ; ] then L[ +b ; ] fi ] ] M M M ] ]", "L[ +F[ if L[ +F[ if L[ +a ; ] then L[ +b ; ] else L[ +c ; ] fi ] ] M M M ] ]",
		"L[ +F[ if NL M then M fi ] ]", "L[ +F[ if M M M M ] ; +b ]", "L[ +F[ if M M M M ] ] E[ ) ]", "L[ +S[ @a @if ] ; ] E[ then ] L[ +b ; ] E[ fi ]",
	)
}

// P13.1: of a Loop each piece, and what lacks.
func TestLoop(t *testing.T) {
	for _, word := range []string{"while", "until"} {
		n := lacking(t, "H", [][2]string{{word, word}, {"L[ +a ; ]", "M"}, {"do", "M"}, {"NL L[ +b NL ]", "M"}, {"done", "M"}}, func(there []bool) bool {
			return there[2] || !there[3]
		})
		if n != 24 {
			t.Error(n)
		}
		asDrawn(t, each("L[ +H[ $ L[ +a ; +b ; ] M M done ] ]", word)...)
		asDrawn(t, each("L[ +H[ $ M M M M ] ]", word)...)
		asDrawn(t, each("L[ +H[ $ NL M M M done ] ]", word)...)
		asDrawn(t, each("L[ +H[ $ L[ +B[ { L[ +a ; ] } ] ] M L[ +b ; ] done ] ]", word)...)
		asDrawn(t, each("L[ +H[ $ L[ +a ; ] do L[ +b ; ] M ] ] E[ do ] L[ +c ; ] E[ done ]", word)...)
		asDrawn(t, each("L[ +H[ $ L[ +a ; ] M M M ] ] E[ then ] L[ +b ; ] E[ done ]", word)...)
		asDrawn(t, each("L[ +H[ $ L[ +a ; ] do L[ +b ; ] M ] ] E[ fi ]", word)...)
		asDrawn(t, each("L[ +H[ $ L[ +S[ @a @do @b ] ; ] M M done ] ]", word)...)
		asDrawn(t, each("L[ +H[ $ L[ +H[ $ L[ +a ; ] do L[ +b ; ] done ] NL ] do L[ +H[ $ M do M done ] ] done ] ]", word)...)
		asDrawn(t, each("L[ +H[ $ M M M M ] ; +a ]", word)...)
		asDrawn(t, each("L[ +S[ @a @$ ] ; ] E[ do ] L[ +b ; ] E[ done ]", word)...)
	}
}

// P13.1: of a For each of its ways, its name, and what lacks.
func TestFor(t *testing.T) {
	rest := " do L[ +b ; ] done ] ]"
	ways := []string{"", ";", "; NL", "; NL NL NL", "NL", "NL NL NL", "in ;", "in ; NL", "in NL", "in NL NL", "NL in ;", "NL NL in NL", "in @x ;", "in @x @y @z ; NL NL", "in @x NL", "NL in @x @y NL NL", "in @do @done @in ;", "in @a=1 @} @'q' @for NL", "NL NL NL in @1 @$a ;"}
	for _, way := range ways {
		for _, name := range []string{"a", "_", "_9", "in", "do", "done", "for", "if", "esac", "while", "x1"} {
			asDrawn(t, "L[ +O[ for @"+name+" "+way+rest, "L[ +O[ for @"+name+" "+way+" do NL L[ +b NL ] done R[ > @f ] ] ; +c ]")
			asDrawn(t, "L[ +O[ for @"+name+" "+way+" do M done ] ]", "L[ +O[ for @"+name+" "+way+" do M M ] ]", "L[ +O[ for @"+name+" "+way+" M M M ] ]", "L[ +O[ for @"+name+" "+way+" M M done ] ]", "L[ +O[ for @"+name+" "+way+" M M M ] ] E[ ) ]")
			asDrawn(t, "L[ +O[ for @"+name+" "+way+" do L[ +b ; ] M ] ]", "L[ +O[ for @"+name+" "+way+" do L[ +b ; ] M ] ] E[ fi ]")
		}
		if way == "" || !strings.HasSuffix(way, ";") && !strings.HasSuffix(way, "NL") {
			continue
		}
		asDrawn(t, "L[ +O[ for @a "+way+" M L[ +b ; ] done ] ]", "L[ +O[ for @a "+way+" M L[ +b ; ] M ] ]", "L[ +O[ for @a "+way+" M L[ +U[ ( M ) ] ] M ] ]")
	}
	for _, name := range []string{"1", "1x", "x-", "'x'", "$x", "é", "-", "x~", "x^", "~x"} {
		asDrawn(t, each("L[ +O[ for M M L[ +S[ @$ @in @b ] ; ] M ] ] E[ do ] L[ +c ; ] E[ done ]", name)...)
	}
	tail := " E[ in ] L[ +b ; ] E[ do ] L[ +c ; ] E[ done ]"
	asDrawn(t,
		"L[ +O[ for M M L[ A[ I[ ! M ] ] ] M ] ]"+tail, "L[ +O[ for M M L[ +B[ { M M ] ] M ] ]"+tail, "L[ +O[ for M M M M ] ] E[ } ]"+tail, "L[ +O[ for M M L[ +S[ X[ x=1 ] @in @b ] ; ] M ] ] E[ do ] L[ +c ; ] E[ done ]",
		"L[ +O[ for M M M M ] ]", "L[ +O[ for @done M M M ] ]", "L[ +O[ for M M M M ] ] E[ ) ]", "L[ +O[ for M M M M ] & +a ]",
		"L[ +O[ for M ; do L[ +b ; ] done ] ]", "L[ +O[ for M NL do L[ +b ; ] done ] ]", "L[ +O[ for M NL in @a ; do L[ +b ; ] done ] ]", "L[ +O[ for M ; NL M M M ] ]", "L[ +O[ for M ; NL M M M ] ] E[ in ] L[ +a ]", "L[ +O[ for M NL NL in @a NL M M M ] ]",
		"L[ +O[ for @in M L[ +a ; ] M ] ] E[ do ] L[ +c ; ] E[ done ]", "L[ +O[ for @in in @in ; do L[ +c ; ] done ] ]", "L[ +O[ for @do M L[ +a ; ] done ] ]", "L[ +O[ for @do do L[ +a ; ] done ] ]",
		"L[ +O[ for @a ; M M M ] ] E[ in ] L[ +b ; ] E[ do ] L[ +c ; ] E[ done ]", "L[ +O[ for @a ; NL M M M ] ] E[ in ] L[ +b ]",
		"L[ +O[ for @a in @b M M M M ] ]", "L[ +O[ for @a in M M M M ] ]", "L[ +O[ for @a in @b M M M M ] & ] E[ do ] L[ +c ; ] E[ done ]", "L[ +O[ for @a in @b M M M M ] ] E[ ) ]", "L[ +O[ for @a in M M L[ +U[ ( L[ +b ] ) ] ; ] M ] ] E[ do ] L[ +c ; ] E[ done ]",
		"L[ +O[ for @a in @b @do @c ; M M done ] ]", "L[ +O[ for @a in @b @do @c @done M M M M ] ]", "L[ +O[ for @a in @b ; M M M ] ; ] E[ do ] L[ +c ; ] E[ done ]", "L[ +O[ for @a in @b NL M M M ] ; ] E[ do ]", "L[ +O[ for @a in @b M M L[ +S[ R[ > @f ] ] ; ] M ] ] E[ do ] L[ +c ; ] E[ done ]", "L[ +O[ for @a in @b M M M M ] ] E[ #1 ]", "L[ +O[ for @a in @b M M M M ] ] E[ ;; ]",
		"L[ +O[ for @a M L[ +b ; ] M ] ] E[ do ] L[ +c ; ] E[ done ]", "L[ +O[ for @a M L[ +S[ @b @in @c ] ; ] done ] ]", "L[ +O[ for @a M M M ] & ]", "L[ +O[ for @a NL M L[ +b ; ] M ] ] E[ in ] L[ +c ]", "L[ +O[ for @a NL M L[ +S[ @b @in @c ] ] M ] ]", "L[ +O[ for @a ; M M M ] ; ]", "L[ +O[ for @a ; NL M M M ] ; ]", "L[ +O[ for @a NL M M M ] ; ]",
	)
}

// P13.1: of a Case each piece, its Items, and what lacks.
func TestCase(t *testing.T) {
	for _, word := range append([]string{"a", "a=1", "$x", "'a~b'", "1"}, reserved...) {
		asDrawn(t, each("L[ +C[ case @$ in esac ] ]", word)...)
		asDrawn(t, each("L[ +C[ case @$ NL NL in NL NL NL esac R[ > @$ ] ] ; +b ]", word)...)
		asDrawn(t, each("L[ +C[ case @$ in T[ ( @$ | @$ ) L[ +b ] ] ;; NL T[ ( @$ ) ] ;; esac ] ]", word)...)
		asDrawn(t, each("L[ +C[ case @$ M M ] ]", word)...)
		asDrawn(t, each("L[ +C[ case @$ NL M M ] ]", word)...)
		asDrawn(t, each("L[ +C[ case @$ in M ] ]", word)...)
		asDrawn(t, each(word)...)
		asDrawn(t, each("L[ +C[ case @$ NL M esac ] ]", word)...)
		asDrawn(t, each("L[ +C[ case @$ NL M T[ ( @b ) ] esac ] ]", word)...)
		asDrawn(t, each("L[ +C[ case @$ in T[ ( @$ M ] M ] ]", word)...)
		asDrawn(t, each("L[ +C[ case @a in T[ @b | @$ ) ] ;; T[ @c | @$ ) ] esac ] ]", word)...)
		if word != "esac" {
			asDrawn(t, each("L[ +C[ case @a in T[ @$ ) L[ +c ] ] ;; T[ @$ | @$ ) NL L[ +d ; ] ] esac ] ]", word)...)
			asDrawn(t, each("L[ +C[ case @a in T[ @$ M ] M ] ]", word)...)
		}
	}
	asDrawn(t,
		// the word, in and esac
		"L[ +C[ case M M M ] ]", "L[ +C[ case M NL in M ] ]", "L[ +C[ case M NL in esac ] ]", "L[ +C[ case M NL M esac ] ]", "L[ +C[ case M NL NL M M ] ] E[ ) ]", "L[ +C[ case M M M ] ] E[ ) ]", "L[ +C[ case M M M ] ; ] E[ in ] E[ esac ]", "L[ +C[ case @a M M ] ; ] E[ in ]",
		"L[ +C[ case @in M esac ] ]", "L[ +C[ case @esac M M ] ]", "L[ +C[ case @a M esac ] ]", "L[ +C[ case @a M T[ @b ) ] ;; esac ] ]", "L[ +C[ case M M T[ ( @b ) ] ;; esac ] ]", "L[ +C[ case @a in NL M ] ]", "L[ +C[ case @a in M ] ; ] E[ esac ]", "L[ A[ I[ C[ case @a in M ] | .b ] ] ] E[ ) ]", "L[ +C[ case @a in M ] ] E[ ;; ] E[ esac ]", "L[ +C[ case @a in M ] ] E[ #1 ] E[ esac ]",
		// Items
		"L[ +C[ case @a in T[ @b ) ] esac ] ]", "L[ +C[ case @a in T[ @b ) ] ;; esac ] ]", "L[ +C[ case @a in T[ ( @b ) ] ;; NL NL T[ @c ) ] ;; NL esac ] ]", "L[ +C[ case @a in NL T[ @b ) NL NL ] ;; T[ @c ) NL L[ +d NL ] ] ;; NL esac ] ]", "L[ +C[ case @a in T[ @b ) L[ +c ] ] ;; esac ] ]", "L[ +C[ case @a in T[ @b ) L[ +c ; NL ] ] ;; esac ] ]", "L[ +C[ case @a in T[ @b ) L[ +c ; ] ] esac ] ]", "L[ +C[ case @a in T[ @b ) L[ +c NL ] ] esac ] ]",
		"L[ +C[ case @a in T[ @b ) NL ] esac ] ]", "L[ +C[ case @a in T[ ( @esac ) ] esac ] ]", "L[ +C[ case @a in T[ ( @b | @esac ) ] ;; T[ ( @esac | @esac ) ] ;; esac ] ]", "L[ +C[ case @a in esac ] ] E[ ) ] E[ esac ]", "L[ A[ I[ C[ case @a in T[ @b ) ] ;; esac ] | .c ] ] ] E[ ) ]", "L[ +C[ case @a in T[ @b ) ] ;; esac ] ] E[ ) ]",
		"L[ +C[ case @a in T[ @b ) L[ +S[ @c @esac ] ] ] M ] ]", "L[ +C[ case @a in T[ @b ) L[ +S[ @c @esac ] ] ] ;; esac ] ]",
		// an Item without its ;; that isn't the last one
		"L[ +C[ case @a in T[ @b ) L[ +c NL +d ] ] M ] ] E[ ) ] L[ +e ] E[ ;; ] E[ esac ]", "L[ +C[ case @a in T[ @b ) ] M ] ] E[ ) ]", "L[ +C[ case @a in T[ @b ) L[ +U[ ( L[ +c ] ) ] ] ] esac ] ]", "L[ +C[ case @a in T[ ( @b ) L[ +U[ ( L[ +c ] ) ] ] ] M ] ] E[ d ] E[ ;; ] E[ esac ]", "L[ +C[ case @a in T[ @b ) NL L[ +U[ ( L[ +c ] ) ] NL ] ] ;; NL esac ] ]", "L[ +C[ case @a in T[ @b ) L[ +c ; ] ] M ] ; ] E[ esac ]", "L[ +C[ case @a in T[ @b ) L[ +B[ { L[ +c ; ] } ] ] ] M ] ] E[ d ] E[ ) ] E[ esac ]", "L[ +C[ case @a in T[ @b ) L[ +B[ { L[ +c ; ] } ] ] ] esac ] ]",
		"L[ +C[ case @a in T[ @b ) ] ;; M ] ] E[ ;; ] E[ esac ]", "L[ +C[ case @a in T[ @b ) ] ;; NL M ] ; ] E[ esac ]", "L[ +C[ case @a in T[ @b ) ] ;; M ] ]", "L[ +C[ case @a in T[ @b ) L[ +c ] ] M ] ]", "L[ +C[ case @a in T[ @b ) ] ;; NL M ] ] E[ ) ]",
		// pieces of an Item that lack
		"L[ +C[ case @a in T[ ( M ) ] ;; esac ] ]", "L[ +C[ case @a in T[ ( M | M ) ] ;; esac ] ]", "L[ +C[ case @a in T[ ( M | @b ) L[ +c ] ] ;; esac ] ]", "L[ +C[ case @a in T[ @b | M ) ] ;; esac ] ]", "L[ +C[ case @a in T[ @b | M | @c ) ] esac ] ]", "L[ +C[ case @a in T[ @b | M M ] M ] ]", "L[ +C[ case @a in T[ @b M ] M ] ]", "L[ +C[ case @a in T[ @b M ] ;; esac ] ]", "L[ +C[ case @a in T[ @b M L[ +c ] ] ;; esac ] ]", "L[ +C[ case @a in T[ @b M NL L[ +c ] ] ;; T[ @d M ] esac ] ]", "L[ +C[ case @a in T[ @b M NL ] esac ] ]",
		"L[ +C[ case @a in T[ ( M M ] M ] ]", "L[ +C[ case @a in T[ ( M M ] ;; T[ @b ) ] esac ] ]", "L[ +C[ case @a in T[ ( M M L[ +U[ ( L[ +b ] ) ] ] ] ;; esac ] ]", "L[ +C[ case @a in T[ ( @b M L[ +U[ ( M ) ] ] ] ;; esac ] ]", "L[ +C[ case @a in T[ @b M L[ +S[ R[ > @f ] ] ] ] ;; esac ] ]", "L[ +C[ case @a in T[ @b | M M ] ;; esac ] ]", "L[ +C[ case @a in T[ @b M ] M ] & ]", "L[ +C[ case @a in T[ ( @esac M ] esac ] ]",
		// below others
		"L[ +C[ case @a in T[ @b ) L[ +C[ case @c in T[ @d ) ] esac ] ] ] ;; esac ] ]", "L[ +B[ { L[ +C[ case @a in esac ] ] } ] ]", "L[ +U[ ( L[ +C[ case @a in T[ @b ) L[ +c ] ] M ] ] ) ] ]", "L[ +U[ ( L[ +C[ case @a in T[ @b ) ] ;; M ] ] ) ] ]", "L[ +C[ case @a in T[ @b ) L[ A[ I[ ! .c ] ] & ] ] ;; esac ] NL ]", "L[ A[ I[ C[ case @a in esac ] | .b ] && -C[ case @a in esac ] ] ]",
	)
}

// P13.1: of a Function each compound, none, and what lacks.
func TestFunction(t *testing.T) {
	for _, c := range compounds {
		inner := strings.TrimSuffix(c, " ]")
		for _, n := range lines {
			asDrawn(t, "L[ +N[ @f ( ) "+n+" "+c+" ] ]", "L[ +N[ @f ( ) "+n+" "+inner+" R[ > @g ] R[ #2 >& @1 ] ] ] ]", "L[ A[ I[ ! N[ @f ( ) "+n+" "+c+" ] | N[ @g ( ) "+n+" "+c+" ] ] && -N[ @h ( ) "+n+" "+c+" ] ] ; +a ]", "L[ +B[ { L[ +N[ @f ( ) "+n+" "+c+" ] ] } ] ]", "L[ +N[ @f ( ) "+n+" B[ { L[ +N[ @g ( ) "+n+" "+c+" ] ] } ] ] ]")
		}
		if c[0] != 'U' {
			asDrawn(t, "L[ +N[ @f ( M "+c+" ] ]", "L[ +N[ @f ( M NL "+c+" ] ]")
		}
	}
	for _, n := range lines {
		asDrawn(t, "L[ +N[ @f ( ) "+n+" M ] ]", "L[ +N[ @f ( M "+n+" M ] ]", "L[ +N[ @f ( ) "+n+" M ] ; +a ]", "L[ +N[ @f ( ) "+n+" M ] ] E[ a ]", "L[ +N[ @f ( ) "+n+" M ] ] E[ g ] L[ +U[ ( M ) ] ] E[ { ] L[ +a ; ] E[ } ]", "L[ +N[ @f ( ) "+n+" M ] ] E[ > ] L[ +g ]", "L[ +N[ @f ( ) "+n+" M ] ] E[ ! ] L[ +B[ { L[ +a ; ] } ] ]", "L[ +N[ @f ( ) "+n+" M ] ] E[ ) ]", "L[ A[ -N[ @f ( ) "+n+" M ] && -a ] ]", "L[ A[ I[ N[ @f ( ) "+n+" M ] | .a ] ] ]", "L[ +N[ @f ( ) "+n+" M ] ] E[ in ]", "L[ +N[ @f ( ) "+n+" M ] ] E[ a=1 ]", "L[ +N[ @f ( ) "+n+" M ] ] E[ #2 ] L[ +g ]")
	}
	asDrawn(t,
		"L[ +N[ @f ( M U[ ( L[ +a ] ) ] ] ]", "L[ +N[ @f ( M NL M ] ] E[ ) ]", "L[ +N[ @f ( M M ] ] E[ a ] E[ ) ]", "L[ +N[ @f ( M M ] ; +a ]", "L[ +N[ @f ( ) B[ { M M ] ] ]", "L[ +N[ @f ( ) U[ ( M ) ] ] ]", "L[ +N[ @f ( ) F[ if M M M M ] ] ]", "L[ +N[ @f ( ) C[ case M M M ] ] ]",
		"L[ +N[ @f ( ) B[ { L[ +a ; ] } ] ] ] E[ { ] L[ +a ; ] E[ } ]", "L[ +N[ @f ( ) B[ { L[ +a ; ] } ] ] ; +N[ @f ( ) B[ { L[ +a ; ] } ] ] ]",
	)
}
