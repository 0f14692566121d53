package modes_test

import (
	"math"
	"slices"
	"strconv"
	"strings"
	"testing"

	"quillwort/api"
	"quillwort/modes"
)

// fifteen are the modes, each with its letter, how a text gets into it, and what shuts it.
var fifteen = []struct {
	mode, number int
	letter       byte
	into, shut   string
}{
	{api.ModeTop, 0, 'T', "", ""},
	{api.ModeCommand, 1, 'C', "$(a", ")"},
	{api.ModeParen, 2, 'P', "$(a(", ")"},
	{api.ModeOpen, 3, 'O', "$(", ")"},
	{api.ModeSingle, 4, 'S', "'", "'"},
	{api.ModeDouble, 5, 'D', "\"", "\""},
	{api.ModeBack, 6, 'B', "`", "`"},
	{api.ModeParam, 7, 'V', "${", "}"},
	{api.ModeInner, 8, 'I', "\"${", "}"},
	{api.ModeArith, 9, 'A', "$((", "))"},
	{api.ModeRound, 10, 'R', "$(((", ")"},
	{api.ModeClose, 11, 'E', "$(()", ")"},
	{api.ModeDollar, 12, 'L', "$", ""},
	{api.ModeEscape, 13, 'X', "\\", "\n"},
	{api.ModeComment, 14, '#', "#", "\n"},
}

// rule is a line of the chapter: what is done where one of the modes counts, and one of the bytes comes.
type rule struct {
	modes string // their letters
	bytes string // none: any byte
	fresh bool   // only where it is fresh
	ahead string // if some, only where one of these modes is right ahead
	does  string // signs: + opens the mode behind it, = becomes it, - shuts, f fresh, n not fresh, > the byte comes to the mode that counts then
}

// rules are the chapter's lines; the first one that holds counts.
var rules = []rule{
	{modes: "TCP", bytes: "\\", does: "+X"},
	{modes: "TCP", bytes: "'", does: "+Sn"},
	{modes: "TCP", bytes: "\"", does: "+Dn"},
	{modes: "TCP", bytes: "`", does: "+Bn"},
	{modes: "TCP", bytes: "$", does: "+Ln"},
	{modes: "TCP", bytes: "#", fresh: true, does: "+#"},
	{modes: "TCP", bytes: " \t\n|&;<>", does: "f"},
	{modes: "T", bytes: "()", does: "f"},
	{modes: "CP", bytes: "(", does: "+Pf"},
	{modes: "P", bytes: ")", does: "-f"},
	{modes: "C", bytes: ")", does: "-n"},
	{modes: "TCP", does: "n"},
	{modes: "X", bytes: "\n", does: "-"},
	{modes: "X", does: "-n"},
	{modes: "S", bytes: "'", does: "-"},
	{modes: "#", bytes: "\n", does: "-f"},
	{modes: "B", bytes: "`", does: "-"},
	{modes: "B", bytes: "\\", does: "+X"},
	{modes: "D", bytes: "\"", does: "-"},
	{modes: "VI", bytes: "}", does: "-"},
	{modes: "AR", bytes: "(", does: "+R"},
	{modes: "R", bytes: ")", does: "-"},
	{modes: "A", bytes: ")", does: "=E"},
	{modes: "DVIAR", bytes: "\\", does: "+X"},
	{modes: "DVIAR", bytes: "$", does: "+L"},
	{modes: "DVIAR", bytes: "`", does: "+B"},
	{modes: "VI", bytes: "\"", does: "+D"},
	{modes: "V", bytes: "'", does: "+S"},
	{modes: "E", bytes: ")", does: "-"},
	{modes: "E", does: "=A>"},
	{modes: "L", bytes: "(", does: "=Of"},
	{modes: "L", bytes: "{", ahead: "DI", does: "=I"},
	{modes: "L", bytes: "{", does: "=V"},
	{modes: "L", bytes: "$", does: "-"},
	{modes: "L", does: "->"},
	{modes: "O", bytes: "(", does: "=An"},
	{modes: "O", does: "=C>"},
}

// model is a machine that goes by the rules.
type model struct {
	modes string // letters
	from  []int
	fresh bool
}

// begin is a model at the beginning.
func begin() *model {
	return &model{modes: "T", from: []int{0}, fresh: true}
}

// holds tells whether a rule does for a byte.
func (m *model) holds(r rule, b byte) bool {
	n := len(m.modes)
	return strings.IndexByte(r.modes, m.modes[n-1]) >= 0 &&
		(r.bytes == "" || strings.IndexByte(r.bytes, b) >= 0) &&
		(!r.fresh || m.fresh) &&
		(r.ahead == "" || n > 1 && strings.IndexByte(r.ahead, m.modes[n-2]) >= 0)
}

// does does what a rule says.
func (m *model) does(r rule, at int) (again bool) {
	for i := 0; i < len(r.does); i++ {
		n := len(m.modes)
		switch r.does[i] {
		case '+':
			i++
			m.modes += r.does[i : i+1]
			m.from = append(m.from, at)
		case '=':
			i++
			m.modes = m.modes[:n-1] + r.does[i:i+1]
		case '-':
			m.modes, m.from = m.modes[:n-1], m.from[:n-1]
		case '>':
			again = true
		default:
			m.fresh = r.does[i] == 'f'
		}
	}
	return again
}

// come lets the byte at a place come.
func (m *model) come(b byte, at int) {
	for again := true; again; {
		again = false
		for _, r := range rules {
			if m.holds(r, b) {
				again = m.does(r, at)
				break
			}
		}
	}
}

// ends tells whether a word ends ahead of a byte.
func (m *model) ends(b byte) bool {
	return strings.IndexByte(" \t\n|&;<>()", b) >= 0 && (m.modes == "T" || m.modes == "TL" && b != '(')
}

// behind is the model behind a text.
func behind(s string) *model {
	m := begin()
	for i := range len(s) {
		m.come(s[i], i)
	}
	return m
}

// end is where a word ends by the model.
func end(s string, at int) int {
	m := begin()
	for i := at; i < len(s); i++ {
		if m.ends(s[i]) {
			return i
		}
		m.come(s[i], i-at)
	}
	return len(s)
}

// closing is what shuts all that the model has open.
func (m *model) closing() string {
	s := ""
	for i := range len(m.modes) {
		for _, f := range fifteen {
			if f.letter == m.modes[i] {
				s = f.shut + s
			}
		}
	}
	return s
}

// number is a letter's mode; -1: it is none.
func number(letter byte) int {
	for _, f := range fifteen {
		if f.letter == letter {
			return f.mode
		}
	}
	return -1
}

// frames are frames of a model.
func (m *model) frames() []api.Frame {
	var l []api.Frame
	for i, from := range m.from {
		l = append(l, api.Frame{Mode: number(m.modes[i]), From: from})
	}
	return l
}

// spelled is a stack as text: each frame's letter and place, and a * where it is fresh.
func spelled(l []api.Frame, fresh bool) string {
	var all []string
	for _, f := range l {
		letter := "?" + strconv.Itoa(f.Mode) + "?"
		for _, m := range fifteen {
			if m.mode == f.Mode {
				letter = string(m.letter)
			}
		}
		all = append(all, letter+strconv.Itoa(f.From))
	}
	if fresh {
		all = append(all, "*")
	}
	return strings.Join(all, " ")
}

// run is Run's answer, spelled.
func run(s string) string {
	return spelled(modes.Run(s))
}

// runs checks the stack behind a text.
func runs(t *testing.T, s, want string) {
	t.Helper()
	if got := run(s); got != want {
		t.Errorf("Run(%q) %s, not %s", s, got, want)
	}
}

// holds checks all that is asked of a text against the model; false: it is otherwise.
func holds(t *testing.T, s string) bool {
	t.Helper()
	m := behind(s)
	l, fresh := modes.Run(s)
	if !slices.Equal(l, m.frames()) || fresh != m.fresh {
		t.Errorf("Run(%q) %s, not %s", s, spelled(l, fresh), spelled(m.frames(), m.fresh))
		return false
	}
	if got := modes.Show(l); got != m.modes {
		t.Errorf("Show behind %q: %s, not %s", s, got, m.modes)
		return false
	}
	return shuts(t, s, m.closing())
}

// shuts checks what shuts all that is open behind a text, and that it does.
func shuts(t *testing.T, s, want string) bool {
	t.Helper()
	got := modes.Closing(s)
	if got != want {
		t.Errorf("Closing(%q) %q, not %q", s, got, want)
		return false
	}
	l, _ := modes.Run(s + got)
	if show := modes.Show(l); show != "T" && show != "TL" {
		t.Errorf("behind %q and %q: %s", s, got, show)
		return false
	}
	return true
}

// ends checks a word's end from each place of a text on, and from outside it.
func ends(t *testing.T, s string) bool {
	t.Helper()
	for at := range len(s) + 1 {
		if got, want := modes.End(s, at), end(s, at); got != want {
			t.Errorf("End(%q, %d) %d, not %d", s, at, got, want)
			return false
		}
	}
	for _, at := range append([]int{-1, len(s) + 1, len(s) + 2, -len(s) - 1}, far...) {
		if got := modes.End(s, at); got != -1 {
			t.Errorf("End(%q, %d) %d, outside", s, at, got)
			return false
		}
	}
	return true
}

// far are numbers far outside.
var far = []int{math.MinInt, math.MinInt + 1, -1 << 32, -api.MaxText, 1 << 32, 1 << 40, math.MaxInt - 1, math.MaxInt}

// turning are the bytes that turn something, and some that don't.
const turning = "\\'\"`$#(){}\n a;"

// texts are all texts of at most so many bytes of those.
func texts(those string, most int) []string {
	all := []string{""}
	for from := 0; most > 0; most-- {
		for to := len(all); from < to; from++ {
			for i := range len(those) {
				all = append(all, all[from]+those[i:i+1])
			}
		}
	}
	return all
}

// counter answers numbers from 0 to a most, the same row of them each time.
func counter() func(most int) int {
	number := uint32(1)
	return func(most int) int {
		number = number*1664525 + 1013904223
		return int(number>>8) % (most + 1)
	}
}

// next are what each byte makes behind a text: of the bytes that are listed what stands ahead of them, of all others the last.
var next = []struct {
	s, stack string
	rows     []string // a stack, and bytes
	other    string
}{
	{"", "T0 *", []string{"T0 X0 *", "\\", "T0 S0", "'", "T0 D0", "\"", "T0 B0", "`", "T0 L0", "$", "T0 #0 *", "#", "T0 *", " \t\n|&;<>()"}, "T0"},
	{"a", "T0", []string{"T0 X1", "\\", "T0 S1", "'", "T0 D1", "\"", "T0 B1", "`", "T0 L1", "$", "T0 *", " \t\n|&;<>()"}, "T0"},
	{"$( ", "T0 C0 *", []string{"T0 C0 X3 *", "\\", "T0 C0 S3", "'", "T0 C0 D3", "\"", "T0 C0 B3", "`", "T0 C0 L3", "$", "T0 C0 #3 *", "#", "T0 C0 *", " \t\n|&;<>", "T0 C0 P3 *", "(", "T0", ")"}, "T0 C0"},
	{"$(a", "T0 C0", []string{"T0 C0 X3", "\\", "T0 C0 S3", "'", "T0 C0 D3", "\"", "T0 C0 B3", "`", "T0 C0 L3", "$", "T0 C0 *", " \t\n|&;<>", "T0 C0 P3 *", "(", "T0", ")"}, "T0 C0"},
	{"$(a(", "T0 C0 P3 *", []string{"T0 C0 P3 X4 *", "\\", "T0 C0 P3 S4", "'", "T0 C0 P3 D4", "\"", "T0 C0 P3 B4", "`", "T0 C0 P3 L4", "$", "T0 C0 P3 #4 *", "#", "T0 C0 P3 *", " \t\n|&;<>", "T0 C0 P3 P4 *", "(", "T0 C0 *", ")"}, "T0 C0 P3"},
	{"$(a(b", "T0 C0 P3", []string{"T0 C0 P3 X5", "\\", "T0 C0 P3 S5", "'", "T0 C0 P3 D5", "\"", "T0 C0 P3 B5", "`", "T0 C0 P3 L5", "$", "T0 C0 P3 *", " \t\n|&;<>", "T0 C0 P3 P5 *", "(", "T0 C0 *", ")"}, "T0 C0 P3"},
	{"$(", "T0 O0 *", []string{"T0 A0", "(", "T0", ")", "T0 C0 X2 *", "\\", "T0 C0 S2", "'", "T0 C0 D2", "\"", "T0 C0 B2", "`", "T0 C0 L2", "$", "T0 C0 #2 *", "#", "T0 C0 *", " \t\n|&;<>"}, "T0 C0"},
	{"'a", "T0 S0", []string{"T0", "'"}, "T0 S0"},
	{"\"a", "T0 D0", []string{"T0", "\"", "T0 D0 X2", "\\", "T0 D0 L2", "$", "T0 D0 B2", "`"}, "T0 D0"},
	{"`a", "T0 B0", []string{"T0", "`", "T0 B0 X2", "\\"}, "T0 B0"},
	{"${a", "T0 V0", []string{"T0", "}", "T0 V0 X3", "\\", "T0 V0 L3", "$", "T0 V0 B3", "`", "T0 V0 D3", "\"", "T0 V0 S3", "'"}, "T0 V0"},
	{"\"${a", "T0 D0 I1", []string{"T0 D0", "}", "T0 D0 I1 X4", "\\", "T0 D0 I1 L4", "$", "T0 D0 I1 B4", "`", "T0 D0 I1 D4", "\""}, "T0 D0 I1"},
	{"$((a", "T0 A0", []string{"T0 A0 R4", "(", "T0 E0", ")", "T0 A0 X4", "\\", "T0 A0 L4", "$", "T0 A0 B4", "`"}, "T0 A0"},
	{"$((a(b", "T0 A0 R4", []string{"T0 A0 R4 R6", "(", "T0 A0", ")", "T0 A0 R4 X6", "\\", "T0 A0 R4 L6", "$", "T0 A0 R4 B6", "`"}, "T0 A0 R4"},
	{"$((a)", "T0 E0", []string{"T0", ")", "T0 A0 R5", "(", "T0 A0 X5", "\\", "T0 A0 L5", "$", "T0 A0 B5", "`"}, "T0 A0"},
	{"a$", "T0 L1", []string{"T0 O1 *", "(", "T0 V1", "{", "T0", "$", "T0 X2", "\\", "T0 S2", "'", "T0 D2", "\"", "T0 B2", "`", "T0 *", " \t\n|&;<>)"}, "T0"},
	{"\\", "T0 X0 *", []string{"T0 *", "\n"}, "T0"},
	{"a\\", "T0 X1", nil, "T0"},
	{"#a", "T0 #0 *", []string{"T0 *", "\n"}, "T0 #0 *"},
}

// P6.1: each of the fifteen modes with each byte behind it, and the places of the frames that stand then.
func TestNext(t *testing.T) {
	seen := map[int]bool{}
	for _, c := range next {
		runs(t, c.s, c.stack)
		l, _ := modes.Run(c.s)
		seen[l[len(l)-1].Mode] = true
		for i := range 256 {
			b := byte(i)
			want := c.other
			for k := 0; k < len(c.rows); k += 2 {
				if strings.IndexByte(c.rows[k+1], b) >= 0 {
					want = c.rows[k]
				}
			}
			runs(t, c.s+string([]byte{b}), want)
		}
	}
	if len(seen) != len(fifteen) {
		t.Errorf("%d modes", len(seen))
	}
}

// stacks are texts, and the stacks behind them.
var stacks = []struct{ s, stack string }{
	{"\"a$(b 'c", "T0 D0 C2 S6"}, // the chapter's example
	{"", "T0 *"},
	{"echo a", "T0"},
	{"echo ", "T0 *"},
	{"\x00", "T0"},
	{"\x00#", "T0"},
	{" \x00 ", "T0 *"},
	{"\x80\xff\xc3\xa9", "T0"},
	{"\"\x00\xff", "T0 D0"},
	{"$(\xff\x00", "T0 C0"},
	{"$\xff(", "T0 *"},
	{"${\x00}", "T0"},

	{"#", "T0 #0 *"}, // a comment, where it is fresh
	{" #", "T0 #1 *"},
	{"\t#", "T0 #1 *"},
	{"\n#", "T0 #1 *"},
	{"|#", "T0 #1 *"},
	{"&#", "T0 #1 *"},
	{";#", "T0 #1 *"},
	{"<#", "T0 #1 *"},
	{">#", "T0 #1 *"},
	{"(#", "T0 #1 *"},
	{")#", "T0 #1 *"},
	{"a #", "T0 #2 *"},
	{"# '\"`$(\\", "T0 #0 *"},
	{"# a\n", "T0 *"},
	{"# a\n#", "T0 #4 *"},
	{"# a\\\n#", "T0 #5 *"}, // a comment has no escapes
	{"\\\n#", "T0 #2 *"},    // what was fresh is so behind an escaped newline
	{"a \\\n\\\n#", "T0 #6 *"},
	{"$(#", "T0 C0 #2 *"},
	{"$(\\\n#", "T0 C0 #4 *"},
	{"$(a #)", "T0 C0 #4 *"},
	{"$(a #)\n)", "T0"},
	{"\"$(#\"", "T0 D0 C1 #3 *"},
	{"$(a(#", "T0 C0 P3 #4 *"},
	{"$(a()#", "T0 C0 #5 *"},
	{"$(a;#", "T0 C0 #4 *"},

	{"a#", "T0"}, // and where it isn't
	{"##", "T0 #0 *"},
	{"a##", "T0"},
	{"a#b", "T0"},
	{"a# #", "T0 #3 *"},
	{"\"\"#", "T0"},
	{"''#", "T0"},
	{"``#", "T0"},
	{"$#", "T0"},
	{"$$#", "T0"},
	{"$a#", "T0"},
	{"${a}#", "T0"},
	{"$()#", "T0"},
	{"$( )#", "T0"},
	{"$(())#", "T0"},
	{"$(a #\n)#", "T0"},
	{"\\ #", "T0"},
	{"\\##", "T0"},
	{"a\\\n#", "T0"},
	{"\"\\\n\"#", "T0"},
	{"'#", "T0 S0"},
	{"' #", "T0 S0"},
	{"\"#", "T0 D0"},
	{"\" #", "T0 D0"},
	{"` #", "T0 B0"},
	{"${#", "T0 V0"},
	{"${ #", "T0 V0"},
	{"$((#", "T0 A0"},
	{"$(( #", "T0 A0"},
	{"$((a)#", "T0 A0"},
	{"$(a#", "T0 C0"},
	{"$(a(b#", "T0 C0 P3"},
	{"$('a'#", "T0 C0"},

	{"(", "T0 *"}, // parentheses
	{"((", "T0 *"},
	{")", "T0 *"},
	{"()", "T0 *"},
	{"a(b)", "T0 *"},
	{"a)b", "T0"},
	{"$(()", "T0 E0"},
	{"$( (", "T0 C0 P3 *"},
	{"$( (a", "T0 C0 P3"},
	{"$( (a)", "T0 C0 *"},
	{"$( (a))", "T0"},
	{"$( ( (", "T0 C0 P3 P5 *"},
	{"$( ( ()", "T0 C0 P3 *"},
	{"$( ( ()))", "T0"},
	{"$(a)", "T0"},
	{"$(a))", "T0 *"},
	{"$(a $(b", "T0 C0 C4"},
	{"$(a $(b)", "T0 C0"},
	{"$(a $(b) )", "T0"},
	{"$(\\\n(", "T0 C0 P4 *"}, // only right behind $( it is arithmetic
	{"$(\\(", "T0 C0"},
	{"$('(' \"(\"", "T0 C0"},
	{"$(a(`)`", "T0 C0 P3"},

	{"'\\", "T0 S0"}, // quotes
	{"'\\'", "T0"},
	{"'a\"`$", "T0 S0"},
	{"'a'b'", "T0 S4"},
	{"'a''", "T0 S3"},
	{"\"'", "T0 D0"},
	{"\"'\"", "T0"},
	{"\"a\\\"b", "T0 D0"},
	{"\"a\\\\\"", "T0"},
	{"a\"b\"c\"d", "T0 D5"},
	{"\\'", "T0"},
	{"\\\"", "T0"},
	{"\\`", "T0"},
	{"\\$", "T0"},
	{"\\$(", "T0 *"},
	{"\\\\", "T0"},
	{"\\\\\\", "T0 X2"},
	{"\\\n\\", "T0 X2 *"},
	{"a\\\n\\", "T0 X3"},

	{"$", "T0 L0"}, // dollars
	{"$a", "T0"},
	{"$ ", "T0 *"},
	{"$'a", "T0 S1"},
	{"$\"a", "T0 D1"},
	{"$\\", "T0 X1"},
	{"$`", "T0 B1"},
	{"$#", "T0"},
	{"$)", "T0 *"},
	{"$}", "T0"},
	{"$$", "T0"},
	{"$$$", "T0 L2"},
	{"$$(", "T0 *"},
	{"$$${", "T0 V2"},
	{"\"$", "T0 D0 L1"},
	{"\"$\"", "T0"},
	{"\"$$", "T0 D0"},
	{"\"$$(", "T0 D0"},
	{"\"$'", "T0 D0"},
	{"\"$ ", "T0 D0"},
	{"\"a$(", "T0 D0 O2 *"},
	{"\"a$((", "T0 D0 A2"},
	{"'$", "T0 S0"},
	{"`$", "T0 B0"},
	{"`$(", "T0 B0"},
	{"#$", "T0 #0 *"},
	{"$($", "T0 C0 L2"},
	{"$($)", "T0"},
	{"$((a)$", "T0 A0 L5"},

	{"${a}", "T0"}, // ${ }, and quotes within it
	{"${a'}", "T0 V0 S3"},
	{"${a'}'", "T0 V0"},
	{"${a'}'}", "T0"},
	{"${a\"}\"}", "T0"},
	{"${a\\}}", "T0"},
	{"${a`}`}", "T0"},
	{"${a${b}", "T0 V0"},
	{"${a${b}}", "T0"},
	{"${a$(})}", "T0"},
	{"${a{}", "T0"},
	{"\"${a'}", "T0 D0"},
	{"\"${a'}'\"", "T0"},
	{"\"${a\"}\"}", "T0 D0"},
	{"\"${a\"'", "T0 D0 I1 D4"},
	{"\"${a${", "T0 D0 I1 I4"},
	{"\"${a${b}", "T0 D0 I1"},
	{"\"${a${b'}}\"", "T0"},
	{"\"${a\"${b'", "T0 D0 I1 D4 I5"},
	{"${a\"${b'", "T0 V0 D3 I4"},
	{"\"${a`", "T0 D0 I1 B4"},
	{"\"$(${a'", "T0 D0 C1 V3 S6"}, // within $( ) the quotes around it don't count
	{"\"$((${a'", "T0 D0 A1 V4 S7"},
	{"\"$(a(${b'", "T0 D0 C1 P4 V5 S8"},
	{"\"${a$(${b'", "T0 D0 I1 C4 V6 S9"},
	{"\"$((a(${b'", "T0 D0 A1 R5 V6 S9"},
	{"\"$((a)${b'", "T0 D0 A1 V6 S9"},

	{"$((", "T0 A0"}, // arithmetic
	{"$((a", "T0 A0"},
	{"$((a)", "T0 E0"},
	{"$((a))", "T0"},
	{"$((a)b", "T0 A0"},
	{"$((a)b)", "T0 E0"},
	{"$((a)b))", "T0"},
	{"$((a) )", "T0 E0"},
	{"$((a)\n)", "T0 E0"},
	{"$((a)))", "T0 *"},
	{"$(((a)", "T0 A0"},
	{"$(((a))", "T0 E0"},
	{"$(((a)))", "T0"},
	{"$((a(b)c)d(e)", "T0 A0"},
	{"$((a(b)c)d(e", "T0 A0 R10"},
	{"$((a(b)c)d(e)))", "T0"},
	{"$((a)(b)", "T0 A0"},
	{"$((a)(b)))", "T0"},
	{"$((((", "T0 A0 R3 R4"},
	{"$((a'\"", "T0 A0"},
	{"$((a;#", "T0 A0"},
	{"$((\\)", "T0 A0"},
	{"$((a)\\)", "T0 A0"},
	{"$((`)`", "T0 A0"},
	{"$((${)}", "T0 A0"},
	{"$(($(a)", "T0 A0"},
	{"$(($((a)b", "T0 A0 A3"},
	{"$((a$))", "T0"},
	{"$((a)$)", "T0 E0"},

	{"`", "T0 B0"}, // backquotes
	{"`a`", "T0"},
	{"`'", "T0 B0"},
	{"`'`", "T0"},
	{"`\"`", "T0"},
	{"`#`", "T0"},
	{"`(`", "T0"},
	{"`\\`", "T0 B0"},
	{"`\\``", "T0"},
	{"`\\\\`", "T0"},
	{"`\\\n`", "T0"},
	{"`a\\$(b`", "T0"},
	{"\"`", "T0 D0 B1"},
	{"\"`\"", "T0 D0 B1"},
	{"\"`\"`", "T0 D0"},
	{"\"`\"`\"", "T0"},
	{"\"`\\`", "T0 D0 B1"},
	{"\"`\\``", "T0 D0"},
	{"\"\\`", "T0 D0"},
	{"$(`)", "T0 C0 B2"},
	{"$(`)`)", "T0"},
}

// P6.1: the stack behind a text, and whether it is fresh.
func TestRun(t *testing.T) {
	for _, c := range stacks {
		runs(t, c.s, c.stack)
		if got := spelled(behind(c.s).frames(), behind(c.s).fresh); got != c.stack {
			t.Errorf("by the rules behind %q: %s, not %s", c.s, got, c.stack)
		}
	}
}

// P6.1: where it is fresh, a # begins a comment, where it isn't, none: behind each byte, wherever commands stand.
func TestComment(t *testing.T) {
	for _, into := range []string{"", "a", " ", "$(", "$(a", "$(a ", "$(a(", "$(a(b", "$(a(b "} {
		for b := range 256 {
			s := into + string([]byte{byte(b)})
			l, fresh := modes.Run(s)
			comment, still := modes.Run(s + "#")
			opened := slices.Equal(comment, append(slices.Clone(l), api.Frame{Mode: api.ModeComment, From: len(s)}))
			if show := modes.Show(l); strings.HasSuffix(show, "T") || strings.HasSuffix(show, "C") || strings.HasSuffix(show, "P") {
				if opened != fresh || still != fresh {
					t.Errorf("behind %q a comment %v, though %v", s, opened, fresh)
				}
			}
			if strings.Contains(" \t\n|&;<>(", string(rune(b))) && into != "$(" && !opened {
				t.Errorf("behind %q no comment", s)
			}
			holds(t, s+"#")
		}
	}
}

// escaping are texts behind which a backslash opens Escape, and the stack it stands upon then.
var escaping = []struct{ s, stack string }{
	{"", "T0 *"},
	{"a", "T0"},
	{"$( ", "T0 C0 *"},
	{"$(a", "T0 C0"},
	{"$(a(", "T0 C0 P3 *"},
	{"$(a(b", "T0 C0 P3"},
	{"\"a", "T0 D0"},
	{"`a", "T0 B0"},
	{"${a", "T0 V0"},
	{"\"${a", "T0 D0 I1"},
	{"$((a", "T0 A0"},
	{"$((a(b", "T0 A0 R4"},
	{"$(", "T0 C0 *"}, // and what passes it on
	{"$((a)", "T0 A0"},
	{"$", "T0"},
	{"\"$", "T0 D0"},
	{"$(a$", "T0 C0"},
}

// P6.1: a backslash ahead of each byte, in each mode in which one opens Escape.
func TestEscape(t *testing.T) {
	for _, c := range escaping {
		bare, fresh := strings.CutSuffix(c.stack, " *")
		mark := ""
		if fresh {
			mark = " *"
		}
		runs(t, c.s+"\\", bare+" X"+strconv.Itoa(len(c.s))+mark)
		for b := range 256 {
			want := bare
			if b == '\n' {
				want += mark
			}
			runs(t, c.s+"\\"+string([]byte{byte(b)}), want)
		}
	}
	for _, s := range []string{"'", "#"} {
		runs(t, s+"\\", run(s))
	}
}

// dollars are texts behind which a dollar opens Dollar, the stack it stands upon then, and what ${ is there.
var dollars = []struct{ s, stack, braced string }{
	{"", "T0", "V"},
	{"a", "T0", "V"},
	{"$( ", "T0 C0", "V"},
	{"$(a", "T0 C0", "V"},
	{"$(a(", "T0 C0 P3", "V"},
	{"$(a(b", "T0 C0 P3", "V"},
	{"\"a", "T0 D0", "I"},
	{"${a", "T0 V0", "V"},
	{"\"${a", "T0 D0 I1", "I"},
	{"${a\"", "T0 V0 D3", "I"},
	{"$((a", "T0 A0", "V"},
	{"$((a(b", "T0 A0 R4", "V"},
	{"\"$((a", "T0 D0 A1", "V"},
	{"\"$(a", "T0 D0 C1", "V"},
	{"$(", "T0 C0", "V"}, // and what passes it on
	{"$((a)", "T0 A0", "V"},
	{"$$", "T0", "V"},
}

// P6.1: a dollar ahead of each byte, in each mode in which one opens Dollar.
func TestDollar(t *testing.T) {
	for _, c := range dollars {
		at := strconv.Itoa(len(c.s))
		runs(t, c.s+"$", c.stack+" L"+at)
		runs(t, c.s+"$(", c.stack+" O"+at+" *")
		runs(t, c.s+"$((", c.stack+" A"+at)
		runs(t, c.s+"$(a", c.stack+" C"+at)
		runs(t, c.s+"$(\n", c.stack+" C"+at+" *")
		runs(t, c.s+"$()", c.stack)
		runs(t, c.s+"$(())", c.stack)
		runs(t, c.s+"${", c.stack+" "+c.braced+at)
		runs(t, c.s+"${}", c.stack)
		runs(t, c.s+"$$", c.stack)
		runs(t, c.s+"$$a", c.stack)
		runs(t, c.s+"$a", c.stack)
		for b := range 256 {
			if one := string([]byte{byte(b)}); !strings.Contains("({$", one) {
				runs(t, c.s+"$"+one, run(c.s+"a"+one)) // as behind any byte that turns nothing
			}
		}
	}
	for _, s := range []string{"'", "`", "#", "\"`"} {
		runs(t, s+"$", run(s))
		runs(t, s+"$(", run(s))
		runs(t, s+"${", run(s))
	}
}

// P6.1, P6.3, P6.4: all short texts, at the beginning and within each mode.
func TestTexts(t *testing.T) {
	for _, s := range texts(turning, 4) {
		if !holds(t, s) {
			return // the rest would tell the same, thousands of times
		}
	}
	for _, s := range texts("$({})\"'", 6) {
		if !holds(t, s) {
			return
		}
	}
	for _, into := range append([]string{"a ", "\"$(", "\"`", "${a\"", "\"${a\"", "\"$((", "$(a\"${", "$((a("}, intos()...) {
		for _, s := range texts(turning, 3) {
			if !holds(t, into+s) {
				return
			}
		}
	}
}

// intos are texts that end within each mode.
func intos() []string {
	var all []string
	for _, f := range fifteen {
		all = append(all, f.into)
	}
	return all
}

// P6.1: Frames and Fresh behind each byte that is fed; what Frames answered, written over, changes nothing.
func TestFeed(t *testing.T) {
	m := modes.New()
	if got := spelled(m.Frames(), m.Fresh()); got != "T0 *" {
		t.Errorf("New: %s", got)
	}
	all := texts(turning, 3)
	for _, c := range stacks {
		all = append(all, c.s)
	}
	for _, c := range next {
		for b := range 256 {
			all = append(all, c.s+string([]byte{byte(b), byte(b)}))
		}
	}
	for _, s := range all {
		m, other := modes.New(), modes.New()
		for i := range len(s) {
			m.Feed(s[i])
			l, fresh := modes.Run(s[:i+1])
			got := m.Frames()
			if !slices.Equal(got, l) || m.Fresh() != fresh {
				t.Fatalf("behind %q: %s, not %s", s[:i+1], spelled(got, m.Fresh()), spelled(l, fresh))
			}
			got = append(got[:cap(got)], api.Frame{Mode: api.ModeBack, From: -1})
			for k := range got {
				got[k] = api.Frame{Mode: api.ModeSingle, From: -7}
			}
			if again := m.Frames(); !slices.Equal(again, l) {
				t.Fatalf("behind %q, and what was answered written over: %s", s[:i+1], spelled(again, m.Fresh()))
			}
		}
		if got := spelled(other.Frames(), other.Fresh()); got != "T0 *" {
			t.Fatalf("a machine to which nothing came: %s", got)
		}
	}
}

// P6.2: a word's end.
func TestEnd(t *testing.T) {
	for _, c := range []struct {
		s       string
		at, end int
	}{
		{"", 0, 0},
		{"", 1, -1},
		{"", -1, -1},
		{"a", 0, 1},
		{"a", 1, 1},
		{"a", 2, -1},
		{"abc", -1, -1},
		{"abc", 0, 3},
		{"abc", 2, 3},
		{"abc", 3, 3},
		{"abc", 4, -1},
		{"abc", math.MinInt, -1},
		{"abc", math.MaxInt, -1},
		{"a b", 0, 1},
		{"a b", 1, 1}, // right where a blank stands the word is empty
		{"a b", 2, 3},
		{"ab\tc", 0, 2},
		{"ab\nc", 0, 2},
		{"ab|c", 0, 2},
		{"ab&c", 0, 2},
		{"ab;c", 0, 2},
		{"ab<c", 0, 2},
		{"ab>c", 0, 2},
		{"ab(c", 0, 2},
		{"ab)c", 0, 2},
		{"ab\x00\xff\r\vc d", 0, 7},
		{"ab{}=!#~c d", 0, 9},
		{"'a b'c d", 0, 6},
		{"'a b'c d", 1, 2}, // nothing ahead of the place counts, no quote either
		{"'a b'c d", 3, 8},
		{"\"a b\" c", 0, 5},
		{"`a b` c", 0, 5},
		{"a\\ b c", 0, 4},
		{"a\\\nb c", 0, 4},
		{"a\\;b;c", 0, 4},
		{"a\\", 0, 2},
		{"'a b", 0, 4},
		{"\"a b", 0, 4},
		{"${a b} c", 0, 6},
		{"\"${a b}\" c", 0, 8},
		{"$(a b) c", 0, 6},
		{"$((a b)) c", 0, 8},
		{"$((a b) ) c", 0, 11},
		{"$((a b) )) c", 0, 10},
		{"$(a (b) c) d", 0, 10},
		{"$(a # )\n)b c", 0, 10},
		{"x$(a;b)y;z", 0, 8},
		{"$", 0, 1}, // a dollar ahead of what ends a word, and ahead of a (
		{"$ a", 0, 1},
		{"$\ta", 0, 1},
		{"$\na", 0, 1},
		{"$|a", 0, 1},
		{"$&a", 0, 1},
		{"$;a", 0, 1},
		{"$<a", 0, 1},
		{"$>a", 0, 1},
		{"$)a", 0, 1},
		{"$(", 0, 2},
		{"$(a", 0, 3},
		{"$() ", 0, 3},
		{"a$ b", 0, 2},
		{"a$", 0, 2},
		{"$$ a", 0, 2},
		{"$$(a)", 0, 2},
		{"$$$(a b) c", 0, 8},
		{"$a(b", 0, 2},
		{"\"$ \" a", 0, 4}, // it doesn't stand upon Top
		{"\"$;", 0, 3},
		{"$($ ) a", 0, 5},
		{"${$ } a", 0, 5},
		{"$(($ )) a", 0, 7},
		{"'$ ' a", 0, 4},
		{"\\$ a", 0, 2},
		{"\\$(a", 0, 2},
		{"$\\ a b", 0, 4},
		{"$'a b' c", 0, 6},
		{"#a b", 0, 4}, // where a comment may begin, it does
		{"#a b\nc d", 0, 6},
		{"a#b c", 0, 3},
		{"x a#b c", 2, 5},
	} {
		if got := modes.End(c.s, c.at); got != c.end {
			t.Errorf("End(%q, %d) %d, not %d", c.s, c.at, got, c.end)
		}
	}
}

// P6.2: each place of many texts, each byte behind a word, behind a quoted one and behind a dollar.
func TestEnds(t *testing.T) {
	for _, s := range texts(turning, 4) {
		if !ends(t, s) {
			return // the rest would tell the same, thousands of times
		}
	}
	for _, into := range intos() {
		for _, s := range texts("\\'\"$( )#a", 3) {
			if !ends(t, into+s) || !ends(t, into+s+"a b") {
				return
			}
		}
	}
	for _, c := range stacks {
		ends(t, c.s)
		ends(t, c.s+modes.Closing(c.s)+" a")
	}
	for b := range 256 {
		one := string([]byte{byte(b)})
		is := strings.Contains(" \t\n|&;<>()", one)
		for _, word := range []string{"a", "'a b'", "\"a\"", "$a", "${a}", "\\a", "\\ ", "$(a)", "a=", "$$"} {
			if got := modes.End(word+one+" a", 0); is && got != len(word) || !is && got <= len(word) {
				t.Errorf("End(%q, 0) %d", word+one+" a", got)
			}
		}
		if got := modes.End("a$"+one+" a", 0); is && b != '(' && got != 2 || (!is || b == '(') && got <= 2 {
			t.Errorf("End(%q, 0) %d", "a$"+one+" a", got)
		}
		for _, s := range []string{one, "a" + one, "$" + one, one + one, "'" + one + "' a", "\"" + one + "\" a", one + " a", "$(" + one + ") a"} {
			ends(t, s)
		}
	}
}

// P6.3: what shuts all that is open, the last frame first.
func TestClosing(t *testing.T) {
	for _, f := range fifteen {
		want := f.shut
		if f.mode == api.ModeParen {
			want = "))"
		}
		if f.mode == api.ModeRound {
			want = ")))"
		}
		if f.mode == api.ModeInner {
			want = "}\""
		}
		shuts(t, f.into, want)
	}
	for _, c := range []struct{ s, shut string }{
		{"", ""},
		{"a b", ""},
		{"'a b' \"c\" `d` ${e} $(f) $((g))", ""},
		{"((", ""},
		{"{", ""},
		{"if a", ""},
		{"a <<E", ""},
		{"\x00\xff", ""},
		{"'\x00\xff", "'"},
		{"a\\", "\n"},
		{"\"a\\", "\n\""},
		{"$(a\\", "\n)"},
		{"`\\", "\n`"},
		{"$((\\", "\n))"},
		{"'\\", "'"},
		{"\\\\", ""},
		{"a$", ""},
		{"\"a$", "\""},
		{"$(a$", ")"},
		{"${$", "}"},
		{"\"${$", "}\""},
		{"$(($", "))"},
		{"$((($", ")))"},
		{"$(a($", "))"},
		{"`$", "`"},
		{"$$", ""},
		{"a$(", ")"},
		{"\"$(", ")\""},
		{"$($(", "))"},
		{"# a '", "\n"},
		{"$(# a '", "\n)"},
		{"\"$(#", "\n)\""},
		{"$(a(#", "\n))"},
		{"$((a)", ")"},
		{"$(((a)", "))"},
		{"$((a)b", "))"},
		{"$((a)(", ")))"},
		{"\"$(a ${b '$(", "'})\""},
		{"\"$(a ${b \"`c", "`\"})\""},
		{"\"${a\"${b`c\\", "\n`}\"}\""},
		{"$((a($(b ( ( ${c\"$((d)", ")\"})))" + ")))"},
		{"$(a;(b;(c \"${d$((e+(f `g\\", "\n`)" + "))" + "}\"" + ")))"},
	} {
		shuts(t, c.s, c.shut)
	}
	for _, c := range stacks {
		shuts(t, c.s, behind(c.s).closing())
	}
	for b := range 256 {
		for _, into := range intos() {
			holds(t, into+string([]byte{byte(b)}))
		}
	}
}

// P6.3, P6.1: many modes open at once, and texts longer than any buffer.
func TestLong(t *testing.T) {
	const n = 50_000
	deep := strings.Repeat("\"${a$(b(`\\``", n)
	l, fresh := modes.Run(deep)
	if len(l) != 1+4*n || fresh || modes.Show(l) != "T"+strings.Repeat("DICP", n) {
		t.Errorf("%d frames, %v", len(l), fresh)
	}
	if got := modes.Closing(deep); got != strings.Repeat("))}\"", n) {
		t.Errorf("%d bytes shut it", len(got))
	}
	if got := modes.End(deep+strings.Repeat("))}\"", n)+" a", 0); got != len(deep)+4*n {
		t.Errorf("it ends at %d", got)
	}
	long := strings.Repeat("a", api.MaxText+10)
	for _, c := range []struct {
		s, stack string
		end      int
	}{
		{long, "T0", len(long)},
		{long + " #", "T0 #" + strconv.Itoa(len(long)+1) + " *", len(long)},
		{"'" + long + " ", "T0 S0", len(long) + 2},
		{"\"" + long + "$(", "T0 D0 O" + strconv.Itoa(len(long)+1) + " *", len(long) + 3},
		{strings.Repeat("\\\n", len(long)) + "#", "T0 #" + strconv.Itoa(2*len(long)) + " *", 2*len(long) + 1},
	} {
		if got := run(c.s); got != c.stack {
			t.Errorf("behind %d bytes: %s, not %s", len(c.s), got, c.stack)
		}
		if got := modes.End(c.s, 0); got != c.end {
			t.Errorf("of %d bytes the end is %d, not %d", len(c.s), got, c.end)
		}
	}
}

// P6.4: the letters of stacks.
func TestShow(t *testing.T) {
	var all []api.Frame
	want := ""
	for _, f := range fifteen {
		if f.mode != f.number {
			t.Errorf("%c is %d, not %d", f.letter, f.mode, f.number)
		}
		one := []api.Frame{{Mode: f.mode, From: -5}}
		if got := modes.Show(one); got != string(f.letter) {
			t.Errorf("Show of %d: %q, not %c", f.mode, got, f.letter)
		}
		all = append(all, one...)
		want += string(f.letter)
	}
	if want != "TCPOSDBVIARELX#" || modes.Show(all) != want {
		t.Errorf("Show of all: %q", modes.Show(all))
	}
	if got := modes.Show(nil); got != "" {
		t.Errorf("Show of none: %q", got)
	}
	if got := modes.Show([]api.Frame{}); got != "" {
		t.Errorf("Show of none: %q", got)
	}
	for _, n := range append([]int{-1, -2, -15, 15, 16, 'T', 256, 257, 1<<32 + 1}, far...) {
		if got := modes.Show([]api.Frame{{Mode: n}}); got != "?" {
			t.Errorf("Show of %d: %q", n, got)
		}
		if got := modes.Show([]api.Frame{{Mode: n}, {Mode: api.ModeRound}, {Mode: n, From: 3}, {Mode: api.ModeTop}}); got != "?R?T" {
			t.Errorf("Show with %d: %q", n, got)
		}
	}
	for n := -1000; n <= 1000; n++ {
		if got := modes.Show([]api.Frame{{Mode: n}}); (got == "?") != (n < 0 || n > 14) || len(got) != 1 {
			t.Errorf("Show of %d: %q", n, got)
		}
	}
	if got := modes.Show(all[2:4]); got != "PO" { // what lies around a list isn't read
		t.Errorf("Show of a piece: %q", got)
	}
}

// follows is what stands behind $( and a text, by what stands behind the text at a program's beginning: the same, so many bytes on, but that there parentheses are counted, which only a ) could tell.
func follows(t *testing.T, ahead, s string) bool {
	t.Helper()
	dollar, _ := modes.Run(ahead + "$") // the dollar may make another mode of the last one
	want := slices.Clone(dollar[:len(dollar)-1])
	first := api.Frame{Mode: api.ModeCommand, From: len(ahead)}
	if s == "" {
		first.Mode = api.ModeOpen // no byte came yet
	}
	want = append(want, first)
	there, fresh := modes.Run(s)
	for _, f := range there[1:] {
		want = append(want, api.Frame{Mode: f.Mode, From: f.From + len(ahead) + 2})
	}
	got, still := modes.Run(ahead + "$(" + s)
	inner, rest := len(dollar), len(dollar)
	for rest < len(got) && got[rest].Mode == api.ModeParen {
		rest++
	}
	got = slices.Delete(got, inner, rest)
	if !slices.Equal(got, want) || still != fresh {
		t.Errorf("behind %q and %q: %s, not %s", ahead+"$(", s, spelled(got, still), spelled(want, fresh))
		return false
	}
	return true
}

// P6.5: behind $( the bytes come as at a program's beginning, whatever stands ahead. (Right behind $( a ( is none of them: it is arithmetic.)
func TestBehind(t *testing.T) {
	all := texts(strings.ReplaceAll(turning, ")", ""), 3)
	for _, c := range stacks {
		if !strings.Contains(c.s, ")") {
			all = append(all, c.s, c.s+"a #b\nc")
		}
	}
	for b := range 256 {
		one := string([]byte{byte(b)})
		all = append(all, one, " "+one, "a"+one, "a "+one+"#", one+one)
	}
	all = slices.DeleteFunc(all, func(s string) bool { return strings.HasPrefix(s, "(") || strings.Contains(s, ")") })
	for _, c := range dollars {
		for _, s := range all {
			if !follows(t, c.s, s) {
				return // the rest would tell the same, thousands of times
			}
		}
	}
	for _, c := range dollars {
		at := strconv.Itoa(len(c.s))
		runs(t, c.s+"$((", c.stack+" A"+at)
		runs(t, c.s+"$((#", c.stack+" A"+at)
	}
}

// P1: any bytes: every call answers, by the rules.
func TestAny(t *testing.T) {
	pick := counter()
	for range 3000 {
		var some, near []byte
		var l []api.Frame
		for range pick(60) {
			some = append(some, byte(pick(255)))
			near = append(near, turning[pick(len(turning)-1)])
			l = append(l, api.Frame{Mode: pick(18) - 2, From: pick(9) - 4})
		}
		for _, s := range []string{string(some), string(near), string(near) + string(some), string(some) + string(near)} {
			if !holds(t, s) || !ends(t, s) {
				return
			}
		}
		want := ""
		for _, f := range l {
			letter := "?"
			for _, m := range fifteen {
				if m.mode == f.Mode {
					letter = string(m.letter)
				}
			}
			want += letter
		}
		if got := modes.Show(l); got != want {
			t.Fatalf("Show(%v) %q, not %q", l, got, want)
		}
	}
}

// R4: what is answered may be written over, and grown; what is handed in is as it was, and what lies behind it, too.
func TestNew(t *testing.T) {
	const s = "\"a$(b 'c"
	first, _ := modes.Run(s)
	second, _ := modes.Run(s)
	clear(first[:cap(first)])
	first = append(first, api.Frame{Mode: 99})
	if got := modes.Show(second); got != "TDCS" {
		t.Errorf("%s", got)
	}
	if got := run(s); got != "T0 D0 C2 S6" {
		t.Errorf("%s", got)
	}
	row := []api.Frame{{Mode: 1}, {Mode: 2}, {Mode: 3, From: 4}}
	was := slices.Clone(row)
	if got := modes.Show(row[:2]); got != "CP" || !slices.Equal(row, was) {
		t.Errorf("%s, and %v", got, row)
	}
	kept := modes.New()
	for i := range len(s) {
		kept.Feed(s[i])
	}
	held := kept.Frames()
	for _, b := range []byte("' d) e\"") {
		kept.Feed(b)
	}
	if got := modes.Show(held); got != "TDCS" { // what was answered doesn't follow the machine
		t.Errorf("%s", got)
	}
	if got := spelled(kept.Frames(), kept.Fresh()); got != "T0" {
		t.Errorf("%s", got)
	}
}
