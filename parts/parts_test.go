package parts_test

import (
	"math"
	"regexp"
	"slices"
	"strconv"
	"strings"
	"testing"
	"unsafe"

	"quillwort/api"
	"quillwort/modes"
	"quillwort/parts"
)

// letters are the modes' letters by their numbers.
const letters = "TCPOSDBVIARELX#"

// kinds are the modes that parts have, each with how such a part begins, how it ends, and whether it expands; a dollar is told apart.
var kinds = []struct {
	mode       int
	head, tail string
	expands    bool
}{
	{api.ModeCommand, "$(", ")", true},
	{api.ModeParen, "(", ")", false},
	{api.ModeSingle, "'", "'", false},
	{api.ModeDouble, "\"", "\"", false},
	{api.ModeBack, "`", "`", true},
	{api.ModeParam, "${", "}", true},
	{api.ModeInner, "${", "}", true},
	{api.ModeArith, "$((", "))", true},
	{api.ModeRound, "(", ")", false},
	{api.ModeDollar, "$", "", false},
	{api.ModeEscape, "\\", "", false},
	{api.ModeComment, "#", "\n", false},
}

// spelled is a row of parts as text: of each its letter, its places, the number of the part around it, if there is one, and a ! if it is Open.
func spelled(l []api.Part) string {
	var all []string
	for _, p := range l {
		s := "?" + strconv.Itoa(p.Mode) + "?"
		if p.Mode >= 0 && p.Mode < len(letters) {
			s = letters[p.Mode : p.Mode+1]
		}
		s += strconv.Itoa(p.From) + "-" + strconv.Itoa(p.To)
		if p.Up != -1 {
			s += "<" + strconv.Itoa(p.Up)
		}
		if p.Open {
			s += "!"
		}
		all = append(all, s)
	}
	return strings.Join(all, " ")
}

// rowed is a row of runs as text.
func rowed(l []api.Run) string {
	var all []string
	for _, r := range l {
		all = append(all, strconv.Itoa(r.Class)+":"+strconv.Itoa(r.From)+"-"+strconv.Itoa(r.To))
	}
	return strings.Join(all, " ")
}

// texted are texts, and their parts.
var texted = []struct{ s, parts string }{
	{"a'b'$x", "S1-4 L4-6"}, // the chapter's example

	{"", ""},
	{"a", ""},
	{"echo a b; (c) | {d} > e # ", "#24-26!"},
	{"a=b\n\t\n", ""},
	{"\x00", ""},
	{"\x80\xff\xc3\xa9", ""},
	{"\x00'\x00'\x00", "S1-4"},
	{"\xff\"\x80\x00", "D1-4!"},
	{"'\xc3\xa9'\xff$\xff", "S0-4 L5-6"},

	{"x$(a b)y", "C1-7"}, // each mode, shut, and where the text ends first
	{"x$(a b", "C1-6!"},
	{"$()", "C0-3"},
	{"$(x(a)y)", "C0-8 P3-6<0"},
	{"$(x(a)", "C0-6! P3-6<0"},
	{"$(x(a", "C0-5! P3-5<0!"},
	{"$(x(", "C0-4! P3-4<0!"},
	{"x'a b'y", "S1-6"},
	{"x'a b", "S1-5!"},
	{"''", "S0-2"},
	{"'", "S0-1!"},
	{"x\"a b\"y", "D1-6"},
	{"x\"a b", "D1-5!"},
	{"\"\"", "D0-2"},
	{"\"", "D0-1!"},
	{"x`a b`y", "B1-6"},
	{"x`a b", "B1-5!"},
	{"``", "B0-2"},
	{"`", "B0-1!"},
	{"x${a}y", "V1-5"},
	{"x${a", "V1-4!"},
	{"${}", "V0-3"},
	{"${", "V0-2!"},
	{"\"x${a}y\"z", "D0-8 I2-6<0"},
	{"\"x${a}", "D0-6! I2-6<0"},
	{"\"x${a", "D0-5! I2-5<0!"},
	{"\"${", "D0-3! I1-3<0!"},
	{"x$((1))y", "A1-7"},
	{"x$((1", "A1-5!"},
	{"$(())", "A0-5"},
	{"$((x(1)y))z", "A0-10 R4-7<0"},
	{"$((x(1)", "A0-7! R4-7<0"},
	{"$((x(1", "A0-6! R4-6<0!"},
	{"$((x(", "A0-5! R4-5<0!"},

	{"$(", "C0-2!"}, // an Open counts as Command, a Close as Arith
	{"a$(", "C1-3!"},
	{"\"a$(", "D0-4! C2-4<0!"},
	{"$($(", "C0-4! C2-4<0!"},
	{"$((", "A0-3!"},
	{"\"$((", "D0-4! A1-4<0!"},
	{"$(()", "A0-4!"},
	{"x$((1)", "A1-6!"},
	{"\"$((a)", "D0-6! A1-6<0!"},
	{"$((a)b)", "A0-7!"},
	{"$(($((a)", "A0-8! A3-8<0!"},

	{"$((a)b", "A0-6!"}, // a Close that is an Arith again
	{"$((a)b))c", "A0-8"},
	{"$((a) ))", "A0-8"},
	{"$((a)\n)", "A0-7!"},
	{"$((a)(b)))", "A0-10 R5-8<0"},
	{"$((a)(b)", "A0-8! R5-8<0"},
	{"$((a)(b", "A0-7! R5-7<0!"},
	{"$((a)$b))", "A0-9 L5-7<0"},
	{"$((a)$))", "A0-8 L5-6<0"},
	{"$((a)$", "A0-6! L5-6<0"},
	{"$((a)`b`))", "A0-10 B5-8<0"},
	{"$((a)\\)))", "A0-9 X5-7<0"},
	{"$((a)\\)", "A0-7! X5-7<0"},
	{"$((a)${b}", "A0-9! V5-9<0"},
	{"$((a)$(b", "A0-8! C5-8<0!"},

	{"$", "L0-1"}, // dollars
	{"x$", "L1-2"},
	{"$a", "L0-2"},
	{"x$a y", "L1-3"},
	{"$abc d", "L0-4"},
	{"$ab1_.c", "L0-5"},
	{"$_", "L0-2"},
	{"$1", "L0-2"},
	{"$12a", "L0-2"},
	{"$0x", "L0-2"},
	{"$@ $* $# $? $- $! $$", "L0-2 L3-5 L6-8 L9-11 L12-14 L15-17 L18-20"},
	{"$@$*$#$?$-$!$$", "L0-2 L2-4 L4-6 L6-8 L8-10 L10-12 L12-14"},
	{"$#a", "L0-2"},
	{"$# #b", "L0-2 #3-5!"},
	{"$-a", "L0-2"},
	{"$ a", "L0-1"},
	{"$\na", "L0-1"},
	{"$.a", "L0-1"},
	{"$=", "L0-1"},
	{"$}", "L0-1"},
	{"$)", "L0-1"},
	{"$;a", "L0-1"},
	{"$\x00", "L0-1"},
	{"$\xc3\xa9", "L0-1"},
	{"$a$b", "L0-2 L2-4"},
	{"$$", "L0-2"},
	{"$$$", "L0-2 L2-3"},
	{"$$$$", "L0-2 L2-4"},
	{"$$a", "L0-2"},
	{"$$(a)", "L0-2"},
	{"$${a}", "L0-2"},
	{"$$${a}", "L0-2 V2-6"},
	{"$$$(a)", "L0-2 C2-6"},
	{"$'a'", "L0-1 S1-4"},
	{"$\"a\"", "L0-1 D1-4"},
	{"$`a`", "L0-1 B1-4"},
	{"$\\a", "L0-1 X1-3"},
	{"$\\", "L0-1 X1-2!"},
	{"\"$", "D0-2! L1-2<0"},
	{"\"$ab\"c", "D0-5 L1-4<0"},
	{"\"$ab", "D0-4! L1-4<0"},
	{"\"$$\"", "D0-4 L1-3<0"},
	{"\"$'\"", "D0-4 L1-2<0"},
	{"$(a)", "C0-4"}, // a dollar that is no dollar any more
	{"${a}", "V0-4"},
	{"$(a$b c)d", "C0-8 L3-5<0"},
	{"'$a'", "S0-4"},
	{"`$a`", "B0-4"},
	{"#$a", "#0-3!"},
	{"\\$a", "X0-2"},

	{"\"a$\"b", "D0-4 L2-3<0"}, // a byte that shuts two
	{"$(a$)b", "C0-5 L3-4<0"},
	{"$($)b", "C0-4 L2-3<0"},
	{"$(a($))b", "C0-7 P3-6<0 L4-5<1"},
	{"${a$}b", "V0-5 L3-4<0"},
	{"\"${a$}\"b", "D0-7 I1-6<0 L4-5<1"},
	{"$(($))b", "A0-6 L3-4<0"},
	{"$((($)))b", "A0-8 R3-6<0 L4-5<1"},
	{"\"$(a \"$\" $)$\"", "D0-13 C1-11<0 D5-8<1 L6-7<2 L9-10<1 L11-12<0"},

	{"x\\ay", "X1-3"}, // escapes
	{"\\", "X0-1!"},
	{"x\\", "X1-2!"},
	{"\\\n", "X0-2"},
	{"x\\\ny", "X1-3"},
	{"\\\\", "X0-2"},
	{"\\\\\\", "X0-2 X2-3!"},
	{"a\\\n\\", "X1-3 X3-4!"},
	{"\\'a", "X0-2"},
	{"\\\xff", "X0-2"},
	{"\"\\\"\"", "D0-4 X1-3<0"},
	{"\"\\", "D0-2! X1-2<0!"},
	{"\"\\\n", "D0-3! X1-3<0"},
	{"`\\``", "B0-4 X1-3<0"},
	{"`\\", "B0-2! X1-2<0!"},
	{"${\\}}", "V0-5 X2-4<0"},
	{"\"${\\}}\"", "D0-7 I1-6<0 X3-5<1"},
	{"$(\\))", "C0-5 X2-4<0"},
	{"$(a(\\)))", "C0-8 P3-7<0 X4-6<1"},
	{"$((\\)))", "A0-7 X3-5<0"},
	{"$(((\\))))", "A0-9 R3-7<0 X4-6<1"},
	{"'\\'", "S0-3"},
	{"#\\\na", "#0-3"},

	{"x #a\ny", "#2-5"}, // comments
	{"x #a", "#2-4!"},
	{"#", "#0-1!"},
	{"#\n", "#0-2"},
	{"#a\n#b\n", "#0-3 #3-6"},
	{"a#b", ""},
	{"# '\"`$(\\", "#0-8!"},
	{"$(#)", "C0-4! #2-4<0!"},
	{"$(#)\n)a", "C0-6 #2-5<0"},
	{"\"$(#\"", "D0-5! C1-5<0! #3-5<1!"},
	{"'# '", "S0-4"},
	{"\\\n#a", "X0-2 #2-4!"},

	{"(a)(b)", ""}, // parens and rounds
	{"$( (a))", "C0-7 P3-6<0"},
	{"$( (a) (b))c", "C0-11 P3-6<0 P7-10<0"},
	{"$(a(b(c)))d", "C0-10 P3-9<0 P5-8<1"},
	{"$(a()())", "C0-8 P3-5<0 P5-7<0"},
	{"$(a;(b #)\n))c", "C0-12 P4-11<0 #7-10<1"},
	{"$((a(b)(c)))d", "A0-12 R4-7<0 R7-10<0"},
	{"$((((a))))b", "A0-10 R3-8<0 R4-7<1"},
	{"$(((a)", "A0-6! R3-6<0"},
	{"$((a(b", "A0-6! R4-6<0!"},

	{"'a'\"b\"", "S0-3 D3-6"}, // parts that open where others are open, or aren't any more
	{"'a' \"b\" `c`", "S0-3 D4-7 B8-11"},
	{"$(a)$(b)", "C0-4 C4-8"},
	{"$(a $(b) $(c))", "C0-14 C4-8<0 C9-13<0"},
	{"$a'b'\"$c\"", "L0-2 S2-5 D5-9 L6-8<2"},
	{"$(($(a)+${b}))", "A0-14 C3-7<0 V8-12<0"},
	{"${a:-$(b)}", "V0-10 C5-9<0"},
	{"${$x}", "V0-5 L2-4<0"},
	{"${a'}'\"}\"}", "V0-10 S3-6<0 D6-9<0"},
	{"\"${a'}'", "D0-7! I1-6<0"},
	{"\"a$(b 'c", "D0-8! C2-8<0! S6-8<1!"},
	{"\"${a\"${b'$(c`d\\e`)'}\"}\"", "D0-23 I1-22<0 D4-21<1 I5-20<2 C9-18<3 B12-17<4 X14-16<5"},
	{"\"$((a+(${b'c'}\"", "D0-15! A1-15<0! R6-15<1! V7-14<2 S10-13<3"},
}

// P7.1: the parts of texts.
func TestOf(t *testing.T) {
	var seen [15]bool
	for _, c := range texted {
		l := parts.Of(c.s)
		if got := spelled(l); got != c.parts {
			t.Errorf("Of(%q) %s, not %s", c.s, got, c.parts)
		}
		if got := spelled(byPrefixes(c.s)); got != c.parts {
			t.Errorf("by the stacks %q has %s, not %s", c.s, got, c.parts)
		}
		for _, p := range l {
			seen[p.Mode] = true
		}
	}
	for _, k := range kinds {
		if !seen[k.mode] {
			t.Errorf("no part of mode %c", letters[k.mode])
		}
	}
}

// P7.1: a dollar ahead of each byte, and of each byte behind a name's first one, where the text goes on and where it ends.
func TestDollar(t *testing.T) {
	for b := range 256 {
		one := string([]byte{byte(b)})
		if strings.Contains("({", one) {
			continue
		}
		first := regexp.MustCompile(`^[A-Za-z_]$`).MatchString(one)
		digit := regexp.MustCompile(`^[0-9]$`).MatchString(one)
		n := 0
		if first || digit || strings.Contains("@*#?-$!", one) {
			n = 1
		}
		more := n
		if first {
			more = 2
		}
		further := n
		if first || digit {
			further = 2
		}
		for _, c := range []struct {
			s string
			n int
		}{
			{"$" + one, n},
			{"$" + one + " ", n},
			{"$" + one + "7", more},
			{"$" + one + "7.", more},
		} {
			dollar(t, "", c.s, c.n)
			dollar(t, "x", c.s, c.n)
			dollar(t, "\"x", c.s, c.n)
			dollar(t, "$(x ", c.s, c.n)
		}
		if further > 1 {
			dollar(t, "", "$a"+one, 2)
			dollar(t, "", "$a"+one+"/b", 2)
			continue
		}
		dollar(t, "", "$a"+one, 1)
		dollar(t, "", "$a"+one+"b", 1)
	}
}

// dollar checks that behind a text a dollar's part begins, with so many bytes behind it.
func dollar(t *testing.T, ahead, s string, n int) {
	t.Helper()
	for _, p := range parts.Of(ahead + s) {
		if p.From == len(ahead) {
			if p.Mode != api.ModeDollar || p.To != len(ahead)+1+n || p.Open {
				t.Errorf("in %q: %s, not of %d bytes", ahead+s, spelled([]api.Part{p}), 1+n)
			}
			return
		}
	}
	t.Errorf("no part at %d of %q", len(ahead), ahead+s)
}

// parameter is a parameter at a text's beginning.
var parameter = regexp.MustCompile(`^([A-Za-z_][A-Za-z_0-9]*|[0-9]|[@*#?$!-])`)

// byPrefixes is the parts of a text by the stacks behind all its beginnings: a frame is known by its place.
func byPrefixes(s string) []api.Part {
	var l []api.Part
	numbers := map[int]int{}
	for n := 1; n <= len(s); n++ {
		frames, _ := modes.Run(s[:n])
		up := -1
		for _, f := range frames[1:] {
			i, ok := numbers[f.From]
			if !ok {
				i = len(l)
				numbers[f.From] = i
				l = append(l, api.Part{From: f.From, Up: up})
			}
			l[i].Mode = f.Mode
			l[i].To = n + 1 // it stands behind n bytes, so that no byte ahead of the next one shuts it
			up = i
		}
	}
	for i := range l {
		p := &l[i]
		switch p.Mode {
		case api.ModeOpen:
			p.Mode = api.ModeCommand
		case api.ModeClose:
			p.Mode = api.ModeArith
		}
		switch {
		case p.Mode == api.ModeDollar:
			p.To = p.From + 1 + len(parameter.FindString(s[p.From+1:]))
		case p.To > len(s):
			p.To, p.Open = len(s), true
		}
	}
	return l
}

// rowsOf is the rows of a text by its parts, byte by byte.
func rowsOf(s string, l []api.Part) []api.Run {
	var all []api.Run
	for at := range len(s) {
		part := -1
		for i, p := range l {
			if p.From <= at && at < p.To {
				part = i
			}
		}
		if n := len(all); n > 0 && all[n-1].Class == part {
			all[n-1].To++
			continue
		}
		all = append(all, api.Run{Class: part, From: at, To: at + 1})
	}
	return all
}

// namesOf is the names of a text's parameters by its parts.
func namesOf(s string, l []api.Part) []string {
	var all []string
	for _, p := range l {
		name := ""
		switch p.Mode {
		case api.ModeDollar:
			name = parameter.FindString(s[p.From+1:])
		case api.ModeParam, api.ModeInner:
			rest := s[p.From+2:]
			name = parameter.FindString(rest)
			if behind := parameter.FindString(strings.TrimPrefix(rest, "#")); behind != "" {
				name = behind
			}
		}
		if name != "" {
			all = append(all, name)
		}
	}
	return all
}

// expandsBy tells whether one of the parts expands.
func expandsBy(l []api.Part) bool {
	for _, p := range l {
		for _, k := range kinds {
			if p.Mode == k.mode && (k.expands || p.Mode == api.ModeDollar && p.To != p.From+1) {
				return true
			}
		}
	}
	return false
}

// holds checks all that is asked of a text against its parts; false: it is otherwise.
func holds(t *testing.T, s string) bool {
	t.Helper()
	l := parts.Of(s)
	if want := byPrefixes(s); !slices.Equal(l, want) {
		t.Errorf("Of(%q) %s, not %s", s, spelled(l), spelled(want))
		return false
	}
	if got, want := parts.Rows(s), rowsOf(s, l); !slices.Equal(got, want) {
		t.Errorf("Rows(%q) %s, not %s", s, rowed(got), rowed(want))
		return false
	}
	if got, want := parts.Names(s), namesOf(s, l); !slices.Equal(got, want) {
		t.Errorf("Names(%q) %q, not %q", s, got, want)
		return false
	}
	if got, want := parts.Expands(s), expandsBy(l); got != want {
		t.Errorf("Expands(%q) %v", s, got)
		return false
	}
	return within(t, s, l) && insides(t, s, l) && tiles(t, s)
}

// within checks that parts lie within each other or apart, and that the last one around another one's From is its Up (P7.5).
func within(t *testing.T, s string, l []api.Part) bool {
	t.Helper()
	for i, p := range l {
		if p.From < 0 || p.From >= p.To || p.To > len(s) || p.Open && p.To < len(s) {
			t.Errorf("of %q the part %d: %s", s, i, spelled(l))
			return false
		}
		up := -1
		for k, o := range l {
			apart := p.To <= o.From || o.To <= p.From
			inside := o.From < p.From && p.To <= o.To || p.From < o.From && o.To <= p.To
			if k != i && !apart && !inside {
				t.Errorf("of %q the parts %d and %d: %s", s, i, k, spelled(l))
				return false
			}
			if o.From < p.From && p.From < o.To {
				up = k
			}
		}
		around := parts.Around(l, p.From)
		last := -1
		if len(around) > 0 {
			last = around[len(around)-1]
		}
		if p.Up != up || p.Up != last || !slices.Contains(parts.Kids(l, p.Up), i) {
			t.Errorf("of %q the part %d, with %d around it: %s", s, i, last, spelled(l))
			return false
		}
	}
	return true
}

// insides checks that what a part's inside leaves out are the bytes with which it begins, and those with which it ends.
func insides(t *testing.T, s string, l []api.Part) bool {
	t.Helper()
	for i, p := range l {
		for _, k := range kinds {
			if k.mode != p.Mode {
				continue
			}
			from, to := parts.Inside(p)
			tail := k.tail
			if p.Open {
				tail = ""
			}
			if from > to || to > len(s) || s[p.From:from] != k.head || s[to:p.To] != tail {
				t.Errorf("of %q the inside of the part %d from %d to %d: %s", s, i, from, to, spelled(l))
				return false
			}
		}
	}
	return true
}

// tiles checks that a text's rows tile it, none empty, and no two neighbours alike.
func tiles(t *testing.T, s string) bool {
	t.Helper()
	end, class := 0, math.MinInt
	for _, r := range parts.Rows(s) {
		if r.From != end || r.To <= r.From || r.Class == class {
			t.Errorf("Rows(%q) %s", s, rowed(parts.Rows(s)))
			return false
		}
		end, class = r.To, r.Class
	}
	if end != len(s) {
		t.Errorf("Rows(%q) end at %d", s, end)
	}
	return end == len(s)
}

// all are all texts of at most so many bytes of those.
func all(those string, most int) []string {
	l := []string{""}
	for from := 0; most > 0; most-- {
		for to := len(l); from < to; from++ {
			for i := range len(those) {
				l = append(l, l[from]+those[i:i+1])
			}
		}
	}
	return l
}

// turning are the bytes that turn something, and some that don't.
const turning = "\\'\"`$#(){}\n a"

// P7.1, P7.3, P7.4, P7.5: all short texts, at the beginning and within each mode.
func TestTexts(t *testing.T) {
	for _, c := range texted {
		holds(t, c.s)
	}
	l := append(all(turning, 4), all("$()a", 6)...)
	l = append(l, all("${}#a", 6)...)
	l = append(l, all("\"${}'", 6)...)
	for _, s := range l {
		if !holds(t, s) {
			return // the rest would tell the same, thousands of times
		}
	}
	for _, into := range []string{"a ", "'", "\"", "`", "#", "\\", "$", "${", "${a", "\"${", "\"${a", "$(", "$(a", "$(a(", "$((", "$((a(", "$((a)", "\"$(", "\"$((", "${a\"", "\"${a\"", "\"`", "$(a\"${", "$(a #b\n"} {
		for _, s := range all(turning, 3) {
			if !holds(t, into+s) {
				return
			}
		}
	}
	for b := range 256 {
		one := string([]byte{byte(b)})
		for _, s := range []string{one, "a" + one, one + one, "'" + one, "'" + one + "'", "\"" + one + "\"", "`" + one + "`", "\\" + one, "$" + one, "${" + one + "}", "${#" + one + "}", "\"${" + one + "}\"", "$(" + one + ")", "$((" + one + "))", "$((a)" + one + "))", "$(a(" + one + "))", "$((a(" + one + ")))", " #" + one + "a"} {
			if !holds(t, s) {
				return
			}
		}
	}
}

// P7.1: what expands in texts.
func TestExpands(t *testing.T) {
	for _, c := range []struct {
		s    string
		want bool
	}{
		{"$(a)", true},
		{"$(a", true},
		{"$(", true},
		{"$()", true},
		{"`a`", true},
		{"`a", true},
		{"`", true},
		{"${a}", true},
		{"${a", true},
		{"${", true},
		{"\"${a}\"", true},
		{"\"${", true},
		{"$((1))", true},
		{"$((1", true},
		{"$((1)", true},
		{"$((", true},
		{"$((a(b)))", true},
		{"$(a(b))", true},
		{"$a", true},
		{"$1", true},
		{"$@", true},
		{"$$", true},
		{"$ $a", true},
		{"$.$", false},
		{"x 'a'$b", true},
		{"\"$a\"", true},
		{"\"$a", true},
		{"\"`a`\"", true},
		{"\"$(a)\"", true},
		{"\"$((1))\"", true},
		{"'a'\"b$1\"", true},
		{"a #b\n$c", true},

		{"", false},
		{"a b", false},
		{"(a)", false},
		{"\x00\xff", false},
		{"'a'", false},
		{"'a", false},
		{"'$a'", false},
		{"'`a`'", false},
		{"'${a}$(b)$((c))'", false},
		{"\"a\"", false},
		{"\"a", false},
		{"\"'a'\"", false},
		{"\\a", false},
		{"\\", false},
		{"\\$a", false},
		{"\\${a}", false},
		{"\\`a\\`", false},
		{"\"\\$a\\`\"", false},
		{"#a", false},
		{"#$a", false},
		{"#`a` $(b)\n", false},
		{"$", false},
		{"a$", false},
		{"$ a", false},
		{"$.a", false},
		{"$\xff", false},
		{"\"$\"", false},
		{"\"$", false},
		{"$'a'", false},
		{"$\"a\"", false},
	} {
		if got := parts.Expands(c.s); got != c.want {
			t.Errorf("Expands(%q) %v", c.s, got)
		}
	}
}

// far are numbers far outside.
var far = []int{math.MinInt, math.MinInt + 1, -1 << 32, -api.MaxText, 1 << 32, 1 << 40, math.MaxInt - 1, math.MaxInt}

// around checks the parts around a place of a row.
func around(t *testing.T, l []api.Part, at int, want ...int) {
	t.Helper()
	if got := parts.Around(l, at); !slices.Equal(got, want) {
		t.Errorf("Around(%s, %d) %v, not %v", spelled(l), at, got, want)
	}
}

// P7.2: the parts around the places of a text.
func TestAround(t *testing.T) {
	shut := parts.Of("a\"b\"$c'd'") // D1-4 L4-6 S6-9
	for at, want := range [][]int{{}, {}, {0}, {0}, {}, {1}, {}, {2}, {2}, {}, {}} {
		around(t, shut, at, want...)
	}
	open := parts.Of("a\"b$(c 'd") // D1-9! C3-9<0! S7-9<1!
	for at, want := range [][]int{{}, {}, {0}, {0}, {0, 1}, {0, 1}, {0, 1}, {0, 1}, {0, 1, 2}, {0, 1, 2}, {}} {
		around(t, open, at, want...)
	}
	some := parts.Of("\"a$b`c`\"$(\\") // D0-8 L2-4<0 B4-7<0 C8-11! X10-11<3!
	for at, want := range [][]int{{}, {0}, {0}, {0, 1}, {0}, {0, 2}, {0, 2}, {0}, {}, {3}, {3}, {3, 4}, {}} {
		around(t, some, at, want...)
	}
	dollar := parts.Of("\"$") // D0-2! L1-2<0: a dollar is never Open
	for at, want := range [][]int{{}, {0}, {0}, {}} {
		around(t, dollar, at, want...)
	}
	for _, at := range append([]int{-1, -2, 12, 13, 100}, far...) {
		around(t, shut, at)
		around(t, open, at)
		around(t, some, at)
		around(t, nil, at)
	}
	around(t, nil, 0)
	around(t, []api.Part{}, 0)
}

// P7.2: rows of parts that no text has.
func TestAroundAny(t *testing.T) {
	l := []api.Part{
		{From: 3, To: 3},
		{From: 3, To: 3, Open: true},
		{From: 5, To: 2},
		{From: 5, To: 2, Open: true},
		{From: -4, To: 4, Mode: 99},
		{From: -4, To: 4, Open: true, Up: 77},
		{From: math.MinInt, To: math.MaxInt},
		{From: math.MinInt, To: math.MaxInt, Open: true},
		{From: 2, To: 4, Mode: api.ModeDollar, Open: true},
		{},
		{From: -1, To: 0, Open: true},
		{From: math.MaxInt, To: math.MinInt, Open: true},
	}
	around(t, l, math.MinInt)
	around(t, l, math.MinInt+1, 6, 7)
	around(t, l, -5, 6, 7)
	around(t, l, -4, 6, 7)
	around(t, l, -3, 4, 5, 6, 7)
	around(t, l, -1, 4, 5, 6, 7)
	around(t, l, 0, 4, 5, 6, 7, 10)
	around(t, l, 1, 4, 5, 6, 7)
	around(t, l, 2, 4, 5, 6, 7)
	around(t, l, 3, 4, 5, 6, 7, 8)
	around(t, l, 4, 5, 6, 7, 8)
	around(t, l, 5, 6, 7)
	around(t, l, math.MaxInt-1, 6, 7)
	around(t, l, math.MaxInt, 7)
	around(t, l[:5], 4) // what lies behind a list's length isn't read
	around(t, l[:5], 3, 4)
}

// P7.2: the parts right within others.
func TestKids(t *testing.T) {
	text := parts.Of("\"${a\"$b\"}$c\"'d'") // D0-12 I1-9<0 D4-8<1 L5-7<2 L9-11<0 S12-15
	odd := []api.Part{{Up: 7}, {Up: -9}, {Up: 7}, {Up: math.MinInt}, {Up: 4}, {Up: math.MaxInt}, {Up: 7, From: -3, Mode: 88}}
	for _, c := range []struct {
		l    []api.Part
		up   int
		want []int
	}{
		{text, -1, []int{0, 5}},
		{text, 0, []int{1, 4}},
		{text, 1, []int{2}},
		{text, 2, []int{3}},
		{text, 3, nil},
		{text, 4, nil},
		{text, 5, nil},
		{text, 6, nil},
		{text, -2, nil},
		{text[:5], -1, []int{0}},
		{text[:2], 0, []int{1}},
		{odd, -1, nil},
		{odd, 0, nil},
		{odd, 4, []int{4}},
		{odd, 6, nil},
		{odd, 7, []int{0, 2, 6}},
		{odd, -9, []int{1}},
		{odd, math.MinInt, []int{3}},
		{odd, math.MaxInt, []int{5}},
		{[]api.Part{{}, {}}, 0, []int{0, 1}},
		{nil, -1, nil},
		{nil, 0, nil},
		{[]api.Part{}, -1, nil},
	} {
		if got := parts.Kids(c.l, c.up); !slices.Equal(got, c.want) {
			t.Errorf("Kids(%s, %d) %v, not %v", spelled(c.l), c.up, got, c.want)
		}
	}
	for _, up := range far {
		if got := parts.Kids(text, up); len(got) > 0 {
			t.Errorf("Kids of %d: %v", up, got)
		}
	}
	for _, c := range texted {
		l := parts.Of(c.s)
		n := len(parts.Kids(l, -1))
		for i := range l {
			kids := parts.Kids(l, i)
			for _, k := range kids {
				if k <= i || l[k].Up != i {
					t.Errorf("of %q %d is a kid of %d", c.s, k, i)
				}
			}
			n += len(kids)
		}
		if n != len(l) || len(parts.Kids(l, len(l))) > 0 {
			t.Errorf("of %q %d parts have something around them, not %d", c.s, n, len(l))
		}
	}
}

// P7.2: the insides of texts' parts, of each mode, shut and Open.
func TestInside(t *testing.T) {
	for _, c := range []struct {
		s              string
		part, from, to int
	}{
		{"x$(a b)y", 0, 3, 6},
		{"x$(a b", 0, 3, 6},
		{"$()", 0, 2, 2},
		{"$(", 0, 2, 2},
		{"$(x(a)y)", 1, 4, 5},
		{"$(x(a", 1, 4, 5},
		{"$(x()", 1, 4, 4},
		{"$(x(", 1, 4, 4},
		{"x'a b'y", 0, 2, 5},
		{"x'a b", 0, 2, 5},
		{"''", 0, 1, 1},
		{"'", 0, 1, 1},
		{"x\"a b\"y", 0, 2, 5},
		{"x\"a b", 0, 2, 5},
		{"\"\"", 0, 1, 1},
		{"\"", 0, 1, 1},
		{"x`a b`y", 0, 2, 5},
		{"x`a b", 0, 2, 5},
		{"``", 0, 1, 1},
		{"`", 0, 1, 1},
		{"x${a}y", 0, 3, 4},
		{"x${a", 0, 3, 4},
		{"${}", 0, 2, 2},
		{"${", 0, 2, 2},
		{"\"${a}\"", 1, 3, 4},
		{"\"${a", 1, 3, 4},
		{"\"${}", 1, 3, 3},
		{"\"${", 1, 3, 3},
		{"x$((1))y", 0, 4, 5},
		{"x$((1", 0, 4, 5},
		{"x$((1)", 0, 4, 6}, // it isn't shut, and so the ) belongs to what is within
		{"$(())", 0, 3, 3},
		{"$(()", 0, 3, 4},
		{"$((", 0, 3, 3},
		{"$((x(1)y))", 1, 5, 6},
		{"$((x(1", 1, 5, 6},
		{"$((x()", 1, 5, 5},
		{"$((x(", 1, 5, 5},
		{"$a", 0, 1, 2},
		{"x$abc d", 0, 2, 5},
		{"$$", 0, 1, 2},
		{"$", 0, 1, 1},
		{"$ a", 0, 1, 1},
		{"x\\ay", 0, 2, 3},
		{"\\\n", 0, 1, 2},
		{"\\", 0, 1, 1},
		{"x #a\ny", 0, 3, 4},
		{"x #a", 0, 3, 4},
		{"#\n", 0, 1, 1},
		{"#", 0, 1, 1},
	} {
		if from, to := parts.Inside(parts.Of(c.s)[c.part]); from != c.from || to != c.to {
			t.Errorf("of %q the inside of %d from %d to %d, not from %d to %d", c.s, c.part, from, to, c.from, c.to)
		}
	}
}

// P7.2, P1: parts so short that their inside would end ahead of where it begins, and parts of no text.
func TestInsideShort(t *testing.T) {
	for _, k := range kinds {
		head := len(k.head)
		for n := range head + len(k.tail) + 1 {
			for _, open := range []bool{false, true} {
				p := api.Part{Mode: k.mode, From: 5, To: 5 + n, Open: open}
				want := 5 + head
				if open {
					want = max(want, 5+n)
				}
				if k.tail == "" {
					want = max(want, 5+n)
				}
				if from, to := parts.Inside(p); from != 5+head || to != want {
					t.Errorf("the inside of %s from %d to %d", spelled([]api.Part{p}), from, to)
				}
			}
		}
	}
	for _, c := range []struct {
		p        api.Part
		from, to int
	}{
		{api.Part{}, 1, 1},
		{api.Part{Mode: api.ModeArith, From: 4, To: 8}, 7, 7},
		{api.Part{Mode: api.ModeArith, From: 4, To: 10}, 7, 8},
		{api.Part{Mode: api.ModeSingle, From: 9, To: 2}, 10, 10},
		{api.Part{Mode: api.ModeSingle, From: 9, To: 2, Open: true}, 10, 10},
		{api.Part{Mode: api.ModeSingle, From: 0, To: math.MinInt}, 1, 1},
		{api.Part{Mode: api.ModeArith, From: 0, To: math.MinInt + 1}, 3, 3},
		{api.Part{Mode: api.ModeArith, From: math.MinInt, To: math.MinInt}, math.MinInt + 3, math.MinInt + 3},
		{api.Part{Mode: api.ModeArith, From: math.MinInt, To: math.MaxInt}, math.MinInt + 3, math.MaxInt - 2},
		{api.Part{Mode: api.ModeEscape, From: -5, To: math.MaxInt}, -4, math.MaxInt},
		{api.Part{Mode: api.ModeCommand, From: -5, To: math.MaxInt, Open: true}, -3, math.MaxInt},
		{api.Part{Mode: 99, From: 2, To: 8}, 3, 7},
	} {
		if from, to := parts.Inside(c.p); from != c.from || to != c.to {
			t.Errorf("the inside of %s from %d to %d, not from %d to %d", spelled([]api.Part{c.p}), from, to, c.from, c.to)
		}
	}
	for mode := -2; mode < 20; mode++ {
		for _, from := range far {
			for _, to := range far {
				parts.Inside(api.Part{Mode: mode, From: from, To: to}) // it ends, and doesn't panic
				parts.Inside(api.Part{Mode: mode, From: from, To: to, Open: true})
			}
		}
	}
}

// P7.3: the rows of texts.
func TestRows(t *testing.T) {
	for _, c := range []struct{ s, rows string }{
		{"", ""},
		{"abc", "-1:0-3"},
		{"a b;c\n", "-1:0-6"},
		{"\x00\xff", "-1:0-2"},
		{"'", "0:0-1"},
		{"a'b'$x", "-1:0-1 0:1-4 1:4-6"},
		{"'a'", "0:0-3"},
		{"'a'b", "0:0-3 -1:3-4"},
		{"'a''b'", "0:0-3 1:3-6"}, // side by side
		{"'a'\"b\"c", "0:0-3 1:3-6 -1:6-7"},
		{"$a$b", "0:0-2 1:2-4"},
		{"\\a\\b", "0:0-2 1:2-4"},
		{"$$$", "0:0-2 1:2-3"},
		{"$ab c", "0:0-3 -1:3-5"},
		{"$ a", "0:0-1 -1:1-3"}, // a dollar of one byte
		{"$", "0:0-1"},
		{"a$", "-1:0-1 0:1-2"},
		{"\"$ a\"", "0:0-1 1:1-2 0:2-5"},
		{"\"$\"", "0:0-1 1:1-2 0:2-3"},
		{"$'a'", "0:0-1 1:1-4"},
		{"$(a$)", "0:0-3 1:3-4 0:4-5"},
		{"\"a$b c\"d", "0:0-2 1:2-4 0:4-7 -1:7-8"}, // within a part
		{"$(a\"b\"c)", "0:0-3 1:3-6 0:6-8"},
		{"\"$a\"", "0:0-1 1:1-3 0:3-4"},
		{"\"${a}\"", "0:0-1 1:1-5 0:5-6"},
		{"\"a$b$c", "0:0-2 1:2-4 2:4-6"},
		{"\"a`b`\\cd", "0:0-2 1:2-5 2:5-7 0:7-8"},
		{"$(($((1))))", "0:0-3 1:3-9 0:9-11"},
		{"$(((1)))", "0:0-3 1:3-6 0:6-8"},
		{"$(a(b)c)", "0:0-3 1:3-6 0:6-8"},
		{"\"`\\``\"", "0:0-1 1:1-2 2:2-4 1:4-5 0:5-6"},
		{"${a${b${c}}}d", "0:0-3 1:3-6 2:6-10 1:10-11 0:11-12 -1:12-13"},
		{"${${${a", "0:0-2 1:2-4 2:4-7"},
		{"a\\", "-1:0-1 0:1-2"},
		{"#a\nb", "0:0-3 -1:3-4"},
		{"$(#)\n)b", "0:0-2 1:2-5 0:5-6 -1:6-7"},
		{"\"'$(\"", "0:0-2 1:2-4 2:4-5"},
		{"\"${a\"${b'$(c`d\\e`)'}\"}\"", "0:0-1 1:1-4 2:4-5 3:5-9 4:9-12 5:12-14 6:14-16 5:16-17 4:17-18 3:18-20 2:20-21 1:21-22 0:22-23"},
	} {
		if got := rowed(parts.Rows(c.s)); got != c.rows {
			t.Errorf("Rows(%q) %s, not %s", c.s, got, c.rows)
		}
	}
}

// P7.4: the names of texts' parameters.
func TestNames(t *testing.T) {
	for _, c := range []struct{ s, names string }{
		{"", ""},
		{"a b", ""},
		{"\x00\xff", ""},
		{"$a", "a"},
		{"$ab1_.c", "ab1_"},
		{"$_", "_"},
		{"$12", "1"},
		{"$@$*$#$?$-$!$$", "@ * # ? - ! $"},
		{"$", ""},
		{"$ a", ""},
		{"$.a $\xff $", ""},
		{"$'a'", ""},
		{"${a}", "a"},
		{"${ab1_}c", "ab1_"},
		{"${a", "a"},
		{"${1}", "1"},
		{"${12}", "1"},
		{"${@}${?}", "@ ?"},
		{"${a:-b}", "a"},
		{"${a#b}", "a"},
		{"${a%%b}", "a"},
		{"${#}", "#"}, // the number of parameters, and the length of one
		{"${#", "#"},
		{"${#}a", "#"},
		{"${#:-a}", "#"},
		{"${#.a}", "#"},
		{"${#a}", "a"},
		{"${#ab1}", "ab1"},
		{"${#a", "a"},
		{"${#1}", "1"},
		{"${##}", "#"},
		{"${##a}", "#"},
		{"${#?}", "?"},
		{"${#$}", "$"},
		{"${#-a}", "-"},
		{"${}", ""},
		{"${", ""},
		{"${}a", ""},
		{"${ a}", ""},
		{"${.a}", ""},
		{"${=a}", ""},
		{"${'a'}", ""},
		{"${\"a\"}", ""},
		{"${\\a}", ""},
		{"${\x00}${\xff}", ""},
		{"\"${a}\"", "a"},
		{"\"${#a}\"", "a"},
		{"\"${#}\"", "#"},
		{"\"${}\"", ""},
		{"\"${", ""},
		{"${a:-$b}", "a b"}, // one within another
		{"${a:-${b:-$c}}$d", "a b c d"},
		{"${a:-${#b}}", "a b"},
		{"${${a}}", "$ a"},
		{"${$x}", "$ x"},
		{"${:-$x}", "x"},
		{"\"${a:-\"$b\"}\"", "a b"},
		{"$(a $b $(c ${d}))", "b d"},
		{"$(($a+b*${#c}))", "a c"},
		{"$(a(b $c))", "c"},
		{"$((a(b $c)))", "c"},
		{"$a$a", "a a"}, // as often as they stand there
		{"$b$a${b}", "b a b"},
		{"\"$a ${b}\" $c", "a b c"},
		{"'$a'", ""}, // where none is substituted
		{"\\$a", ""},
		{"\\${a}", ""},
		{"\"\\$a\"", ""},
		{"#$a", ""},
		{"#$a\n$b", "b"},
		{"`$a ${b}`", ""},
		{"${a'$b'}", "a"},
		{"\"${a'$b'}\"", "a b"},
		{"$(a)$((b))", ""},
	} {
		if got := strings.Join(parts.Names(c.s), " "); got != c.names {
			t.Errorf("Names(%q) %s, not %s", c.s, got, c.names)
		}
	}
}

// P1: many parts within each other, and texts longer than any buffer.
func TestLong(t *testing.T) {
	const n = 500
	deep := strings.Repeat("\"${a$(b(`\\``", n)
	l := parts.Of(deep)
	if len(l) != 6*n {
		t.Errorf("%d parts", len(l))
	}
	up := -1
	for i, p := range l {
		want := []int{api.ModeDouble, api.ModeInner, api.ModeCommand, api.ModeParen, api.ModeBack, api.ModeEscape}[i%6]
		if p.Mode != want || p.Open != (i%6 < 4) || p.Up != up {
			t.Fatalf("the part %d: %s", i, spelled(l[i:i+1]))
		}
		switch i % 6 {
		case 0, 1, 2, 3, 4:
			up = i
		default:
			up = i - 2
		}
	}
	shut := deep + strings.Repeat("))}\"", n)
	rows := parts.Rows(shut)
	if len(rows) != 11*n || rows[len(rows)-1] != (api.Run{Class: 0, From: len(shut) - 1, To: len(shut)}) {
		t.Errorf("%d rows, the last one %s", len(rows), rowed(rows[len(rows)-1:]))
	}
	tiles(t, shut)
	long := strings.Repeat("a", api.MaxText+10)
	for _, c := range []struct{ s, parts, rows string }{
		{long, "", "-1:0-1048586"},
		{"'" + long, "S0-1048587!", "0:0-1048587"},
		{"$" + long + ".", "L0-1048587", "0:0-1048587 -1:1048587-1048588"},
		{"\"$" + long + "\"", "D0-1048589 L1-1048588<0", "0:0-1 1:1-1048588 0:1048588-1048589"},
		{long + "$(", "C1048586-1048588!", "-1:0-1048586 0:1048586-1048588"},
	} {
		if got := spelled(parts.Of(c.s)); got != c.parts {
			t.Errorf("of %d bytes the parts %s, not %s", len(c.s), got, c.parts)
		}
		if got := rowed(parts.Rows(c.s)); got != c.rows {
			t.Errorf("of %d bytes the rows %s, not %s", len(c.s), got, c.rows)
		}
	}
	if got := parts.Names("${" + long + "}"); !slices.Equal(got, []string{long}) {
		t.Errorf("%d names", len(got))
	}
}

// R4: an answer is new, and what is handed in is as it was.
func TestMemory(t *testing.T) {
	const s, whole, rows = "a'b'$x \"${y}", "S1-4 L4-6 D7-12! I8-12<2", "-1:0-1 0:1-4 1:4-6 -1:6-7 2:7-8 3:8-12"
	text := strings.Clone(s)
	l := parts.Of(text)
	near, kids := parts.Around(l, len(s)), parts.Kids(l, -1)
	for _, row := range [][]int{near[:cap(near)], kids[:cap(kids)]} {
		for i := range row {
			row[i] = -7
		}
	}
	if got := spelled(l); got != whole {
		t.Errorf("handed in %s, then %s", whole, got)
	}
	for i := range l[:cap(l)] {
		l[:cap(l)][i] = api.Part{Mode: -1}
	}
	runs := parts.Rows(text)
	for i := range runs {
		runs[i] = api.Run{}
	}
	names := parts.Names(text)
	for i, name := range names {
		if unsafe.StringData(name) == unsafe.StringData(text[strings.Index(text, name):]) {
			t.Errorf("the name %s lies in the text", name)
		}
		names[i] = "?"
	}
	if got := spelled(parts.Of(text)); got != whole {
		t.Errorf("then the parts %s", got)
	}
	if got := rowed(parts.Rows(text)); got != rows {
		t.Errorf("then the rows %s", got)
	}
	if got := parts.Names(text); !slices.Equal(got, []string{"x", "y"}) {
		t.Errorf("then the names %q", got)
	}
}
