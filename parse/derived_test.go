package parse_test

import (
	"slices"
	"strconv"
	"strings"
	"testing"

	"quillwort/api"
	"quillwort/parse"
	"quillwort/rules"
	"quillwort/tree"
)

// forms are layer 12's forms, by the Kinds' letters: what a node's row may be, one way ahead of the other. G is any command, K any compound, Q what parts two AndOrs, D two Pipes, Y is X or R, Z is W or R, V what stands between a For's name and its body.
var forms = split(map[byte]string{
	'P': "n* L?",
	'L': "A [ Q A ]* Q?",
	'A': "I [ D n* I ]*",
	'I': "!? G [ | n* G ]*",
	'S': "Y* or Y* W Z*",
	'R': "#? < W",
	'B': "{ n* L } R*",
	'U': "( n* L ) R*",
	'F': "i n* L t n* L [ e n* L t n* L ]* [ l n* L ]? f R*",
	'H': "w n* L d n* L g R*",
	'O': "r W V d n* L g R*",
	'C': "c W n* k n* [ T y n* ]* T? z R*",
	'T': "(? W [ | W ]* ) n* L?",
	'N': "W ( ) n* K",
	'G': "S or B or U or F or H or O or C or N",
	'K': "B or U or F or H or O or C",
	'Q': "; n* or & n* or n n*",
	'D': "a or o",
	'Y': "X or R",
	'Z': "W or R",
	'V': "; n* or n* or n* k W* ; n* or n* k W* n n*",
})

// split is forms as their ways, and these as their pieces.
func split(by map[byte]string) map[byte][][]string {
	all := map[byte][][]string{}
	for letter, s := range by {
		for _, way := range strings.Split(s, " or ") {
			all[letter] = append(all[letter], strings.Fields(way))
		}
	}
	return all
}

// span is a letter, and the leaves that it is to cover.
type span struct {
	letter   byte
	from, to int
}

// found is a node that was found, and its text (layer 11).
type found struct {
	span
	text string
}

// deriver finds all derivations of leaves, by trying whatever the forms allow.
type deriver struct {
	leaves []api.Leaf
	signs  string
	known  map[span][]found
}

// derivations are all derivations of leaves, as long as they are not too deep.
func derivations(leaves []api.Leaf) []found {
	d := &deriver{leaves, newTeller(leaves, 0).signs, map[span][]found{}}
	return d.nodes(span{'P', 0, len(leaves)})
}

// nodes are all nodes of a span.
func (d *deriver) nodes(of span) []found {
	if all, ok := d.known[of]; ok {
		return all
	}
	var all []found
	add := func(at int, kids []found) {
		if at != of.to || !d.besides(of, kids) {
			return
		}
		s := string([]byte{of.letter}) + strconv.Itoa(of.from) + "-" + strconv.Itoa(of.to)
		for i, kid := range kids {
			s += "( "[min(i, 1):][:1] + kid.text
		}
		if len(kids) > 0 {
			s += ")"
		}
		if n := (found{of, s}); !slices.Contains(all, n) {
			all = append(all, n)
		}
	}
	switch {
	case of.letter == 'W' || of.letter == 'X':
		if of.to == of.from+1 && d.leaves[of.from].Kind == api.TokWord {
			add(of.to, nil)
		}
	case of.from < of.to || of.letter == 'P':
		for _, form := range forms[of.letter] {
			d.match(form, of.from, of.to, nil, add)
		}
	}
	d.known[of] = all
	return all
}

// match goes on with each place, up to end, to which the pieces of a form may lead, and the kids up to there.
func (d *deriver) match(form []string, at, end int, kids []found, on func(int, []found)) {
	if len(form) == 0 {
		on(at, kids)
		return
	}
	piece, behind, how := form[:1], form[1:], form[0][1:]
	if form[0] == "[" {
		shut := slices.IndexFunc(form, func(s string) bool { return s[0] == ']' })
		piece, behind, how = form[1:shut], form[shut+1:], form[shut][1:]
	}
	if how != "" {
		d.match(behind, at, end, kids, on)
	}
	if how == "*" {
		behind = form
	}
	next := func(to int, kids []found) {
		if to > at || how == "" {
			d.match(behind, to, end, kids, on)
		}
	}
	if form[0] == "[" {
		d.match(piece, at, end, kids, next)
	} else {
		d.one(piece[0][0], at, end, kids, next)
	}
}

// one goes on behind what one letter or sign may be.
func (d *deriver) one(b byte, at, end int, kids []found, on func(int, []found)) {
	switch {
	case b < 'A' || b > 'Z':
		if at < end && d.signs[at] == b {
			on(at+1, kids)
		}
	case strings.IndexByte("GKQDYZV", b) >= 0:
		for _, form := range forms[b] {
			d.match(form, at, end, kids, on)
		}
	default:
		for to := at + 1; to <= end; to++ {
			for _, n := range d.nodes(span{b, at, to}) {
				on(to, append(kids[:len(kids):len(kids)], n))
			}
		}
	}
}

// besides tells what layer 12 asks for beside a node's form.
func (d *deriver) besides(of span, kids []found) bool {
	word := "" // the first Word's text
	for _, kid := range slices.Backward(kids) {
		if kid.letter == 'W' {
			word = d.leaves[kid.from].Text
		}
	}
	switch of.letter {
	case 'X':
		return assigning.MatchString(d.leaves[of.from].Text)
	case 'S':
		begin := d.leaves[of.from]
		if begin.Kind == api.TokWord && slices.Contains(reserved, begin.Text) || assigning.MatchString(word) {
			return false
		}
		return of.to == len(d.leaves) || d.leaves[of.to].Kind != api.TokWord && strings.IndexByte("#<", d.signs[of.to]) < 0
	case 'N':
		return named.MatchString(word) && !slices.Contains(reserved, word)
	case 'O':
		return named.MatchString(word)
	case 'T':
		return d.signs[of.from] == '(' || word != "esac"
	}
	return true
}

// derived checks that a tree without faults is the only derivation of leaves, and that there is none, if it has some. It tells whether there is one; not ok: it is otherwise.
func derived(t *testing.T, leaves []api.Leaf) (there, ok bool) {
	t.Helper()
	l := parse.Parse(leaves)
	all := derivations(leaves)
	switch {
	case len(all) > 1:
		t.Errorf("%q has the derivations %v", texts(leaves), all)
		return false, false
	case len(all) == 0 && parse.Clean(l):
		t.Errorf("%q has no derivation: %s", texts(leaves), tree.Show(l))
		return false, false
	case len(all) == 1 && (tree.Show(l) != all[0].text || !parse.Clean(l) || !rules.Right(leaves, l)):
		t.Errorf("%q has the derivation %s: %s", texts(leaves), all[0].text, tree.Show(l))
		return false, false
	}
	return len(all) == 1, true
}

// signTexts has a leaf for each sign.
var signTexts = map[byte]string{
	'n': "NL", ';': ";", '&': "&", '|': "|", '(': "(", ')': ")", 'a': "&&", 'o': "||", 'y': ";;", '<': ">", '#': "#2", '?': "##x",
	'!': "!", '{': "{", '}': "}", 'i': "if", 't': "then", 'e': "elif", 'l': "else", 'f': "fi", 'w': "until", 'd': "do", 'g': "done", 'r': "for", 'k': "in", 'c': "case", 'z': "esac", 'x': "f",
	'=': "a=1", '-': "f-1",
}

// ofSigns are leaves by their signs; = is an assignment, - a word that is no name.
func ofSigns(s string) (all []api.Leaf) {
	for _, b := range []byte(s) {
		all = append(all, leaf(signTexts[b]))
	}
	return all
}

// P13.1 to P13.3: all short rows of leaves of each sign.
func TestShortRows(t *testing.T) {
	const signs = "n;&|()aoy<#!{}itelfwdgrkczx?=-"
	rows, count := []string{""}, 0
	for range 4 {
		var longer []string
		for _, s := range rows {
			leaves := ofSigns(s)
			there, ok := derived(t, leaves)
			if !ok || !checked(t, leaves) {
				return
			}
			for at := -1; at <= len(leaves); at++ {
				if !asked(t, leaves, at) {
					return
				}
			}
			if there {
				count++
			}
			for _, b := range []byte(signs) {
				longer = append(longer, s+string([]byte{b}))
			}
		}
		rows = longer
	}
	if count < 500 {
		t.Errorf("%d derivations alone", count)
	}
}

// P13.1 to P13.3: all rows of a few leaves, as long as there are not too many, around what of a command is asked for.
func TestRowsOf(t *testing.T) {
	for _, c := range []struct {
		ahead, signs, behind string
		most, least          int
	}{
		{"", "x;n", "", 6, 100},
		{"", "x!|an", "", 5, 50},
		{"", "x<#=", "", 5, 200},
		{"", "x()n", "", 5, 10},
		{"", "{x;}n", "", 5, 10},
		{"ix;", "tx;fle", "", 4, 0},
		{"ix;tx;", "etx;fl", "", 4, 1},
		{"ix;tx;", "etx;lw", "f", 5, 1},
		{"wx;", "dx;gn", "", 5, 5},
		{"r", "xk;ndg", "", 4, 0},
		{"rx", "xk;nd", "x;g", 5, 20},
		{"c", "xknz(", "", 5, 5},
		{"cxk", "x(|)yz", "", 5, 10},
		{"cxk", "x(nz|", ")yz", 4, 10},
		{"cxkx)", "x;ynz)", "", 4, 10},
		{"x(", ")n{x;}", "", 5, 1},
		{"x()", "n{(x)<", "", 4, 1},
	} {
		count := 0
		rows := []string{""}
		for range c.most + 1 {
			var longer []string
			for _, s := range rows {
				leaves := ofSigns(c.ahead + s + c.behind)
				there, ok := derived(t, leaves)
				if !ok || !checked(t, leaves) {
					return
				}
				if there {
					count++
				}
				for _, b := range []byte(c.signs) {
					longer = append(longer, s+string([]byte{b}))
				}
			}
			rows = longer
		}
		if count < c.least {
			t.Errorf("%s, %s, %s: %d derivations alone", c.ahead, c.signs, c.behind, count)
		}
	}
}
