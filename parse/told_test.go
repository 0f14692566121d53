package parse_test

import (
	"regexp"
	"slices"
	"strings"
	"testing"

	"quillwort/api"
	"quillwort/parse"
	"quillwort/rules"
	"quillwort/tree"
)

// told are the chapter's lines: what a node of the Kind is made of. A sign is a leaf that is taken, one with a ! behind it is wanted, one with a ? is taken if it comes; n* are newlines. A letter with ! is a node or a Missing, one with ? a node or nothing; R* are Redirects. Square brackets stand for what comes again and again, as long as a sign like their first one comes; with a ? behind them, once at most.
var told = map[byte]string{
	'A': "I! [ a n* I! ]*",
	'I': "!? G! [ | n* G! ]*",
	'R': "#? < W!",
	'B': "{ n* L! }! R*",
	'U': "( n* L! )! R*",
	'F': "i n* L! t! n* L! [ e n* L! t! n* L! ]* [ l n* L! ]? f! R*",
	'H': "w n* L! d! n* L! g! R*",
	'C': "c W! n* k! n* T* z! R*",
	'T': "(? W! [ | W! ]* )! n* L?",
	'N': "W! ( )! n* K!",
}

// named and assigning are texts of layer 4's.
var (
	named     = regexp.MustCompile(`^[A-Za-z_][A-Za-z_0-9]*$`)
	assigning = regexp.MustCompile(`(?s)^[A-Za-z_][A-Za-z_0-9]*=.*$`)
)

// teller makes a tree as the chapter's lines tell it, as the pieces of a text: nodes' letters with brackets around what they are made of, and leaves' signs.
type teller struct {
	leaves []api.Leaf
	signs  string
	at     int
	deep   int
	nodes  []api.Node
	up     int
}

// newTeller is one over leaves.
func newTeller(leaves []api.Leaf, at int) *teller {
	d := &teller{leaves: leaves, at: at, up: -1}
	var signs []byte
	for _, f := range leaves {
		signs = append(signs, rules.Sign(f))
	}
	d.signs = string(signs) + "\x00\x00"
	return d
}

// of tells whether the next leaf's sign is one of these; o is as a.
func (d *teller) of(signs string) bool {
	b := d.signs[d.at]
	return strings.IndexByte(signs, b) >= 0 || b == 'o' && strings.Contains(signs, "a")
}

// words tells whether the next leaf is a Word.
func (d *teller) words() bool {
	return d.at < len(d.leaves) && d.leaves[d.at].Kind == api.TokWord
}

// name tells whether the next leaf's text is a name.
func (d *teller) name() bool {
	return named.MatchString(d.leaves[d.at].Text)
}

// begins tells whether a node of a letter begins: G is any command, K any compound.
func (d *teller) begins(letter byte) bool {
	switch letter {
	case 'R':
		return d.of("<") || d.of("#") && d.signs[d.at+1] == '<'
	case 'W':
		return d.words()
	case 'N':
		return d.of("x") && d.name() && d.signs[d.at+1] == '(' && d.deep < 200
	case 'K':
		return d.of("{(iwrc") && d.deep < 200
	case 'G':
		return d.of("x") || d.begins('R') || d.begins('K')
	case 'T':
		return d.of("(") || d.words() && !d.of("z")
	}
	return d.of("!") || d.begins('G')
}

// make makes a node of a letter.
func (d *teller) make(letter byte) {
	if letter == 'G' {
		switch {
		case d.begins('K'):
			letter = 'K'
		case d.begins('N'):
			letter = 'N'
		default:
			letter = 'S'
		}
	}
	if letter == 'K' {
		letter = "BUFHOC"[strings.IndexByte("{(iwrc", d.signs[d.at])]
	}
	counts := strings.IndexByte("BUFHOCN", letter) >= 0
	up, i := d.up, len(d.nodes)
	d.nodes = append(d.nodes, api.Node{Kind: strings.IndexByte(letters, letter) + 1, From: d.at, Up: up})
	d.up = i
	if counts {
		d.deep++
	}
	d.within(letter)
	if counts {
		d.deep--
	}
	d.up = up
	d.nodes[i].To = d.at
}

// within makes what a node of a letter is made of.
func (d *teller) within(letter byte) {
	switch letter {
	case 'M':
	case 'E', 'W', 'X':
		d.at++
	case 'P':
		for d.at < len(d.leaves) {
			switch last := d.nodes[len(d.nodes)-1]; {
			case d.of("n"):
				d.at++
			case d.begins('L') && (last.Kind == api.NodeError || len(d.nodes) == 1):
				d.make('L')
			default:
				d.make('E')
			}
		}
	case 'L':
		d.make('A')
		for d.separator(";&") && d.begins('A') {
			d.make('A')
		}
	case 'S':
		d.simple()
	case 'O':
		d.each()
	default:
		d.tell(strings.Fields(told[letter]))
	}
}

// separator takes a separator, if it comes.
func (d *teller) separator(signs string) bool {
	from := d.at
	if d.of(signs) {
		d.at++
	}
	d.tell([]string{"n*"})
	return d.at > from
}

// simple makes what a Simple is made of.
func (d *teller) simple() {
	ahead := true
	for d.begins('R') || d.words() {
		switch {
		case d.begins('R'):
			d.make('R')
		case ahead && assigning.MatchString(d.leaves[d.at].Text):
			d.make('X')
		default:
			ahead = false
			d.make('W')
		}
	}
}

// each makes what a For is made of.
func (d *teller) each() {
	d.at++
	if d.words() && d.name() {
		d.make('W')
	} else {
		d.make('M')
	}
	switch {
	case d.of(";"):
		d.separator(";")
	default:
		d.tell([]string{"n*"})
		if !d.of("k") {
			break
		}
		d.at++
		for d.words() {
			d.make('W')
		}
		if !d.separator(";") {
			d.make('M')
		}
	}
	d.tell(strings.Fields("d! n* L! g! R*"))
}

// tell makes what pieces of a line tell.
func (d *teller) tell(pieces []string) {
	for i := 0; i < len(pieces); i++ {
		piece := pieces[i]
		b, how := piece[0], piece[1:]
		switch {
		case piece == "[":
			end := i + slices.IndexFunc(pieces[i:], func(s string) bool { return s[0] == ']' })
			for d.of(pieces[i+1]) {
				d.tell(pieces[i+1 : end])
				if pieces[end] == "]?" {
					break
				}
			}
			i = end
		case piece == "n*":
			for d.of("n") {
				d.at++
			}
		case piece == "T*":
			for d.begins('T') {
				d.make('T')
				if !d.of("y") {
					break
				}
				d.tell([]string{"y", "n*"})
			}
		case piece == "R*":
			for d.begins('R') {
				d.make('R')
			}
		case 'A' <= b && b <= 'Z':
			if d.begins(b) {
				d.make(b)
			} else if how == "!" {
				d.make('M')
			}
		case how == "" || d.of(string([]byte{b})):
			d.at++
		case how == "!":
			d.make('M')
		}
	}
}

// tellTree is the tree of leaves, as it is told.
func tellTree(leaves []api.Leaf) []api.Node {
	d := newTeller(leaves, 0)
	d.make('P')
	return d.nodes
}

// checked checks all that is told of leaves; false: something is otherwise.
func checked(t *testing.T, leaves []api.Leaf) bool {
	t.Helper()
	l := parse.Parse(leaves)
	if want := tellTree(leaves); !slices.Equal(l, want) {
		t.Errorf("Parse(%q): %s, not %s", texts(leaves), tree.Show(l), tree.Show(want))
		return false
	}
	if !tree.Check(l, len(leaves)) || l[0].Kind != api.NodeProgram {
		t.Errorf("Parse(%q): %v isn't right", texts(leaves), l)
		return false
	}
	var faults []int
	for i, n := range l {
		if n.Kind == api.NodeError && n.To != n.From+1 || n.Kind == api.NodeMissing && n.To != n.From {
			t.Errorf("Parse(%q): %s: %d covers so many", texts(leaves), tree.Show(l), i)
			return false
		}
		if n.Kind == api.NodeError || n.Kind == api.NodeMissing {
			faults = append(faults, i)
		}
	}
	if got := parse.Faults(l); !slices.Equal(got, faults) {
		t.Errorf("Faults of %s: %v, not %v", tree.Show(l), got, faults)
		return false
	}
	if got := parse.Clean(l); got != (faults == nil) || got != rules.Right(leaves, l) {
		t.Errorf("Clean of %s: %t", tree.Show(l), got)
		return false
	}
	return true
}

// asked checks Begins and Command of leaves at a place; false: something is otherwise.
func asked(t *testing.T, leaves []api.Leaf, at int) bool {
	t.Helper()
	begins := 0 <= at && at < len(leaves) && newTeller(leaves, at).begins('I')
	if got := parse.Begins(leaves, at); got != begins {
		t.Errorf("Begins(%q, %d): %t", texts(leaves), at, got)
		return false
	}
	var want []api.Node
	behind := 0
	if begins {
		d := newTeller(leaves, at)
		d.make('A')
		want, behind = d.nodes, d.at
	}
	if got, end := parse.Command(leaves, at); !slices.Equal(got, want) || end != behind {
		t.Errorf("Command(%q, %d): %v, %d, not %v, %d", texts(leaves), at, got, end, want, behind)
		return false
	}
	return true
}
