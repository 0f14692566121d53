package rules_test

import (
	"regexp"
	"slices"
	"sort"
	"strings"
	"testing"

	"quillwort/api"
	"quillwort/rules"
	"quillwort/tree"
)

// sign is what Sign is to answer, by the chapter's words.
func sign(f api.Leaf) byte {
	own := signs[f.Text]
	meta := own > 0 && strings.IndexByte(";&|()aoy<", own) >= 0
	switch {
	case f.Kind == api.TokNewline:
		return 'n'
	case f.Kind == api.TokNumber:
		return '#'
	case f.Kind == api.TokOper && meta:
		return own
	case f.Kind == api.TokWord && (own == 0 || own == 'n' || meta):
		return 'x'
	case f.Kind == api.TokWord:
		return own
	}
	return '?'
}

// row is what Row is to answer of a node, by the chapter's words: each piece has a place, kids stand ahead of leaves there.
func row(leaves []api.Leaf, l []api.Node, i int) string {
	type piece struct {
		place, class int
		letter       byte
	}
	var all []piece
	covered := map[int]int{}
	for _, n := range l {
		if n.Up != i {
			continue
		}
		all = append(all, piece{n.From, 0, letters[n.Kind-1]})
		for at := n.From; at < n.To; at++ {
			covered[at]++
		}
	}
	for at := l[i].From; at < l[i].To; at++ {
		if covered[at] == 0 {
			all = append(all, piece{at, 1, sign(leaves[at])})
		}
	}
	sort.SliceStable(all, func(a, b int) bool {
		return all[a].place < all[b].place || all[a].place == all[b].place && all[a].class < all[b].class
	})
	var out []byte
	for _, p := range all {
		out = append(out, p.letter)
	}
	return string(out)
}

// forms are the rows that fit, by the Kinds' letters; s and C are told below.
var forms = written(map[string]string{
	"P": `n*L?`,
	"L": `A(sA)*s?`,
	"A": `I([ao]n*I)*`,
	"I": `!?C(\|n*C)*`,
	"S": `[XR]*|[XR]*W[WR]*`,
	"X": `w`,
	"W": `w`,
	"R": `#?<W`,
	"B": `\{n*L\}R*`,
	"U": `\(n*L\)R*`,
	"F": `in*Ltn*L(en*Ltn*L)*(ln*L)?fR*`,
	"H": `wn*Ldn*LgR*`,
	"O": `rW(;n*|n*|n*kW*;n*|n*kW*nn*)dn*LgR*`,
	"C": `cWn*kn*(Tyn*)*T?zR*`,
	"T": `\(?W(\|W)*\)n*L?`,
	"N": `W\(\)n*[BUFHOC]`,
	"E": `[^\x00-\xff]`,
	"M": `[^\x00-\xff]`,
})

// written is regular expressions of what the chapter calls s and C, and of a Word's signs.
func written(by map[string]string) []*regexp.Regexp {
	all := make([]*regexp.Regexp, len(letters)+1)
	for letter, s := range by {
		switch letter {
		case "L":
			s = strings.ReplaceAll(s, "s", "([;&]n*|nn*)")
		case "I":
			s = strings.ReplaceAll(s, "C", "[SBUFHOCN]")
		case "X", "W":
			s = "[!{}itelfwdgrkczx]"
		}
		all[strings.Index(letters, letter)+1] = regexp.MustCompile("^(" + s + ")$")
	}
	return all
}

// reserved, named and assigning are texts of layer 4's.
var (
	reserved  = strings.Fields("! { } case do done elif else esac fi for if in then until while")
	named     = regexp.MustCompile(`^[A-Za-z_][A-Za-z_0-9]*$`)
	assigning = regexp.MustCompile(`(?s)^[A-Za-z_][A-Za-z_0-9]*=.*$`)
)

// fits is what Fits is to answer of a node of a right tree, by the chapter's words.
func fits(leaves []api.Leaf, l []api.Node, i int) bool {
	n := l[i]
	if n.From == n.To && n.Kind != api.NodeProgram || !forms[n.Kind].MatchString(row(leaves, l, i)) {
		return false
	}
	var first api.Leaf // its first W's leaf; none is no name, no assignment and not esac
	for _, k := range slices.Backward(tree.Kids(l, i)) {
		if l[k].Kind == api.NodeWord && l[k].From < l[k].To {
			first = leaves[l[k].From]
		}
	}
	switch string(letters[n.Kind-1]) {
	case "X":
		return assigning.MatchString(leaves[n.From].Text)
	case "S":
		begin := leaves[n.From]
		if begin.Kind == api.TokWord && slices.Contains(reserved, begin.Text) || assigning.MatchString(first.Text) {
			return false
		}
		return n.To == len(leaves) || leaves[n.To].Kind != api.TokWord && leaves[n.To].Kind != api.TokNumber && sign(leaves[n.To]) != '<'
	case "N":
		return named.MatchString(first.Text) && !slices.Contains(reserved, first.Text) && deep(l, i) < 200
	case "O":
		return named.MatchString(first.Text) && deep(l, i) < 200
	case "T":
		return sign(leaves[n.From]) == '(' || first.Text != "esac"
	case "B", "U", "F", "H", "C":
		return deep(l, i) < 200
	}
	return true
}

// deep is what Deep is to answer of a node.
func deep(l []api.Node, i int) (n int) {
	for up := l[i].Up; up >= 0; up = l[up].Up {
		if strings.IndexByte("BUFHOCN", letters[l[up].Kind-1]) >= 0 {
			n++
		}
	}
	return n
}

// checked checks all that is told of a right tree over leaves; false: something is otherwise.
func checked(t *testing.T, leaves []api.Leaf, l []api.Node) bool {
	t.Helper()
	first := -1
	for i := range l {
		if got, want := rules.Row(leaves, l, i), row(leaves, l, i); got != want {
			t.Errorf("Row(%q, %s, %d): %q, not %q", texts(leaves), tree.Show(l), i, got, want)
			return false
		}
		want := fits(leaves, l, i)
		if got := rules.Fits(leaves, l, i); got != want {
			t.Errorf("Fits(%q, %s, %d): %t", texts(leaves), tree.Show(l), i, got)
			return false
		}
		if got, want := rules.Deep(l, i), deep(l, i); got != want {
			t.Errorf("Deep(%s, %d): %d, not %d", tree.Show(l), i, got, want)
			return false
		}
		if !want && first < 0 {
			first = i
		}
	}
	if got := rules.First(leaves, l); got != first {
		t.Errorf("First(%q, %s): %d, not %d", texts(leaves), tree.Show(l), got, first)
		return false
	}
	if got, want := rules.Right(leaves, l), first < 0 && l[0].Kind == api.NodeProgram; got != want {
		t.Errorf("Right(%q, %s): %t", texts(leaves), tree.Show(l), got)
		return false
	}
	return true
}

// leafTexts has a leaf for each sign.
var leafTexts = map[byte]string{
	'n': "\n", ';': ";", '&': "&", '|': "|", '(': "(", ')': ")", 'a': "&&", 'o': "||", 'y': ";;", '<': ">>", '#': "#2", '?': "##",
	'!': "!", '{': "{", '}': "}", 'i': "if", 't': "then", 'e': "elif", 'l': "else", 'f': "fi", 'w': "until", 'd': "do", 'g': "done", 'r': "for", 'k': "in", 'c': "case", 'z': "esac", 'x': "x",
}

// allSigns are all of them.
const allSigns = "n;&|()aoy<#!{}itelfwdgrkczx?"

// built is a node of this row, and a tree with it as the node 1: each kid covers so many leaves, one of them stands ahead of the node, and one behind it.
func built(row string, each int) (leaves []api.Leaf, l []api.Node) {
	leaves = []api.Leaf{leaf(";")}
	l = []api.Node{{Kind: api.NodeList, Up: -1}, {From: 1, Up: 0}}
	for _, b := range []byte(row) {
		kind := strings.IndexByte(letters, b) + 1
		if kind == 0 {
			leaves = append(leaves, leaf(leafTexts[b]))
			continue
		}
		n := api.Node{Kind: kind, From: len(leaves), Up: 1}
		for range each {
			text := "x"
			if kind == api.NodeAssign {
				text = "x=1"
			}
			leaves = append(leaves, leaf(text))
		}
		n.To = len(leaves)
		l = append(l, n)
	}
	l[1].To = len(leaves)
	leaves = append(leaves, leaf(";"))
	l[0].To = len(leaves)
	return leaves, l
}

// asForm checks a row of each kind, with kids that cover one leaf; false: something is otherwise.
func asForm(t *testing.T, row string) bool {
	t.Helper()
	leaves, l := built(row, 1)
	if got := rules.Row(leaves, l, 1); got != row {
		t.Errorf("the row %q: %q", row, got)
		return false
	}
	for kind := 1; kind <= len(letters); kind++ {
		l[1].Kind = kind
		if got, want := rules.Fits(leaves, l, 1), fits(leaves, l, 1); got != want {
			t.Errorf("%c with the row %q: %t", letters[kind-1], row, got)
			return false
		}
	}
	return true
}

// P12.1: all short rows, of each kind.
func TestShortRows(t *testing.T) {
	all := allSigns + letters
	rows := []string{""}
	for range 3 {
		for _, r := range rows {
			if !asForm(t, r) {
				return
			}
		}
		var longer []string
		for _, r := range rows {
			for _, b := range []byte(all) {
				longer = append(longer, r+string([]byte{b}))
			}
		}
		rows = longer
	}
	for n, r := range rows {
		if n%5 == 0 && !asForm(t, r) {
			return
		}
	}
}

// P12.1: all rows of the pieces of a form, and of one that isn't in it, as long as there are not too many.
func TestFormRows(t *testing.T) {
	for letter, c := range map[string]struct {
		pieces string
		most   int
	}{
		"P": {"nLE", 7}, "L": {"A;&nI", 6}, "A": {"Iaon;", 6}, "I": {"!S|nNA", 6}, "S": {"XRWx", 7}, "X": {"x!k;W", 3}, "W": {"x!k;W", 3}, "R": {"#<Wx", 6},
		"B": {"{n}LR", 7}, "U": {"(n)LR", 7}, "F": {"intLf", 7}, "H": {"wnLdg", 7}, "O": {"rW;nkdLg", 6}, "C": {"cWkTzyn", 6}, "T": {"(W|)nL", 6}, "N": {"W()nBC", 6}, "E": {"xE", 4}, "M": {"xM", 4},
	} {
		kind := strings.Index(letters, letter) + 1
		fit := 0
		rows := []string{""}
		for n := 0; n <= c.most; n++ {
			var longer []string
			for _, r := range rows {
				leaves, l := built(r, 1)
				l[1].Kind = kind
				want := fits(leaves, l, 1)
				if got := rules.Fits(leaves, l, 1); got != want {
					t.Errorf("%s with the row %q: %t", letter, r, got)
					return
				}
				if want {
					fit++
				}
				for _, b := range []byte(c.pieces) {
					longer = append(longer, r+string([]byte{b}))
				}
			}
			rows = longer
		}
		if fit == 0 != strings.Contains("XEM", letter) { // none of these leaves is an assignment
			t.Errorf("%s: %d rows fit", letter, fit)
		}
	}
}

// fitting are rows by hand that fit, of each kind, the shortest one first.
var fitting = map[string]string{
	"P": " n nn nnn L nL nnnL",
	"L": "A A; A& An A;n A&n Ann A;nnn A;A A&A AnA AnnnA A;nA A&nnA A;A; A;A&A AnAnA A;nA&nnAnA A;AnA&AnnA;nn",
	"A": "I IaI IoI IanI IonI IannnI IaIaI IaIoI IonIannI IoIoIaIaI",
	"I": "S B U F H O C N !S !B !U !F !H !O !C !N S|S S|nS S|nnnS !S|S B|U F|H|O C|nN|S !N|nS|nnB S|S|S|S|S",
	"S": "X R W XX RR XR RX WW WR XW RW XRXR WWRWR XXRRWWRR XRXWRWRW WRRR RRRW",
	"X": "x ! { } i t e l f w d g r k c z",
	"W": "x ! { } i t e l f w d g r k c z",
	"R": "<W #<W",
	"B": "{L} {nL} {nnnL} {L}R {L}RRR {nL}RR",
	"U": "(L) (nL) (nnnL) (L)R (L)RRR (nL)RR",
	"F": "iLtLf inLtLf iLtnLf innnLtnnnLf iLtLlLf iLtLlnLf iLtLlnnLf iLtLeLtLf iLtLenLtnLf iLtLennLtnnLf iLtLeLtLeLtLf iLtLeLtLenLtLeLtnLlLf iLtLeLtLlLf iLtLfR iLtLfRRR inLtnLenLtnLlnLfRR",
	"H": "wLdLg wnLdLg wLdnLg wnnnLdnnnLg wLdLgR wLdLgRRR wnLdnLgR",
	"O": "rWdLg rW;dLg rW;ndLg rW;nnndLg rWndLg rWnnndLg rWk;dLg rWkW;dLg rWkWWW;dLg rWnk;dLg rWnnnkW;dLg rWk;ndLg rWkW;nnndLg rWkndLg rWkWndLg rWkWWWnnndLg rWnkndLg rWnnkWWnndLg rWdnLg rWdnnnLg rWdLgR rWdLgRRR rWnkW;ndnLgRR",
	"C": "cWkz cWnkz cWnnnkz cWknz cWknnnz cWkTz cWkTyz cWkTynz cWkTynnnz cWkTyTz cWkTyTyz cWkTynTynnTz cWkzR cWkzRRR cWnknTynTzR",
	"T": "W) (W) W|W) W|W|W|W) (W|W) W)n W)nnn W)L W)nL W)nnnL (W|W)nL",
	"N": "W()B W()U W()F W()H W()O W()C W()nB W()nnnU W()nnF",
}

// wrong are rows by hand that don't fit, of each kind, but without what is read off those that do.
var wrong = map[string]string{
	"P": "LL Ln LnL x A P E M nn; S nnLM ; nLn",
	"L": "; n ;A nA AA A;; A;& A&; An; An& A;n;A A;An;A AA;A A| A;I a",
	"A": "a o aI Ia Io IanIn nI In II Iaa IaoI I;I I|I IanaI A S",
	"I": "! !! !!S S! S|!S | |S S| S|n S| nS Sn S|nSn SS S||S !nS A W X I T L P",
	"S": "WX WXW XWX RWRX x W; ;W nW Wn I XWn WL A T N",
	"X": "# n ; & | ( ) a o y < ? xx x; W X Mx xM S",
	"W": "# n ; & | ( ) a o y < ? xx x; W X Mx xM S",
	"R": "< #< W #W W< <WW ##<W <#W <W# << <nW <X <x <M #<WR",
	"B": "{} L} {L { n} {n} {Ln} {LL} {L}n {L}W {L}nR {R} L {L)R (L} {A} {L}}",
	"U": "() L) (L ( n) (n) (Ln) (LL) (L)n (L)W (L)nR (R) L (L}R {L) (A) (L))",
	"F": "if itf iLf iLtf itLf tLf iLtL iLtLLf iLtLlf iLtLef iLtLeLf iLtLeLtf iLtLlLlLf iLtLlLeLtLf LtLf iLntLf iLtLnf iLtLf; iLtLfW iLLtLf iiLtLf iLtLff iLtLeLeLtLf iLtLtLf iLdLg iLtLfn",
	"H": "wdg wLg wLdg wdLg wLdL LdLg wLndLg wLdLng wLdLgn wLdLgW wLdLdLg wwLdLg wLdLgg wLtLf wLLdLg wLdLLg",
	"O": "r rW rdLg rWdg rWdL rWLg rxdLg rWWdLg rWn;dLg rW;;dLg rW;kdLg rW;kW;dLg rW;nkW;dLg rWkdLg rWkWdLg rWkW;;dLg rWkWn;dLg rWkWnkdLg rWknWndLg rWkWnWndLg rWkkW;dLg rWk&dLg rW&dLg nrWdLg rnWdLg rWdLgn rWdLgW rWdLLg rWXdLg rWkX;dLg",
	"C": "c cW cWk cWz cWTz ckz cxkz cWkTTz cWkyz cWkTyyz cWkTnz cWkTynTTz cWkTyTTyz cWkWz cWkLz cWWkz cWk;z cnWkz cWkzn cWkzW cWkTy cWzk cWkkz cWkTyTy",
	"T": "W (W ) () L W)) ((W) ) WW) W|) |W) W||W) W)LL W)Ln (W)LT W)y n W n) nW) Wn) W|nW) (nW) W;) W(L X)",
	"N": "W() W()n W( W)B ()B W(B W()S W()N W()L W()T W()BR W()BB W()Bn Wn()B W(n)B WW()B W())B W(()B X()B x()B nW()B W()E",
	"E": " x ? ; E M xx n",
	"M": " x ? ; E M xx n",
}

// P12.1: rows that fit, and rows that don't.
func TestForms(t *testing.T) {
	for _, letter := range strings.Split(letters, "") {
		rows := strings.Split(fitting[letter], " ")
		if fitting[letter] == "" {
			rows = nil
		}
		for _, r := range rows {
			if !formed(t, letter, r, true) {
				return
			}
			for _, other := range spoilt(r) {
				if !asForm(t, other) {
					return
				}
			}
		}
		for _, r := range strings.Split(wrong[letter], " ") {
			if (r != "" || letter != "P") && !formed(t, letter, r, false) {
				return
			}
		}
	}
}

// formed checks whether a kind's row fits; false: it is otherwise.
func formed(t *testing.T, letter, row string, want bool) bool {
	t.Helper()
	leaves, l := built(row, 1)
	l[1].Kind = strings.Index(letters, letter) + 1
	if letter == "X" && want {
		leaves[1] = api.Leaf{Kind: api.TokWord, Text: "x=" + row}
		if row != "x" { // such a leaf is a reserved word, and no assignment
			leaves[1].Text, want = leafTexts[row[0]], false
		}
	}
	if got := rules.Fits(leaves, l, 1); got != want || fits(leaves, l, 1) != want {
		t.Errorf("%s with the row %q: %t", letter, row, got)
		return false
	}
	return true
}

// spoilt are rows that have a piece less than one, one twice, one more or another one, or two in another order.
func spoilt(row string) (all []string) {
	pieces := allSigns + letters
	for i := range len(row) {
		all = append(all, row[:i]+row[i+1:], row[:i]+row[i:i+1]+row[i:])
		if i > 0 {
			all = append(all, row[:i-1]+row[i:i+1]+row[i-1:i]+row[i+1:])
		}
		for j := range len(pieces) {
			all = append(all, row[:i]+pieces[j:j+1]+row[i+1:], row[:i]+pieces[j:j+1]+row[i:])
		}
	}
	for j := range len(pieces) {
		all = append(all, row+pieces[j:j+1])
	}
	return all
}

// P12.1: kids that cover none, or several leaves, are pieces as those that cover one.
func TestKidsLeaves(t *testing.T) {
	for letter, rows := range fitting {
		for _, r := range append(strings.Split(rows, " "), strings.Split(wrong[letter], " ")...) {
			for _, each := range []int{0, 2, 3} {
				leaves, l := built(r, each)
				if got := rules.Row(leaves, l, 1); got != r {
					t.Errorf("the row %q: %q", r, got)
					return
				}
				for kind := 1; kind <= len(letters); kind++ {
					l[1].Kind = kind
					if !checked(t, leaves, l) {
						return
					}
				}
			}
		}
	}
}
