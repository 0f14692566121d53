package class_test

import (
	"math"
	"slices"
	"strings"
	"testing"
	"unsafe"

	"quillwort/api"
	"quillwort/class"
)

// What the chapter's words list, byte by byte.
const (
	letters = "ABCDEFGHIJKLMNOPQRSTUVWXYZabcdefghijklmnopqrstuvwxyz_"
	digits  = "0123456789"
	blanks  = " \t"
	metas   = "|&;<>()"
	quotes  = "\\'\"`$"
	special = "@*#?-$!"
)

// classes are all classes, each with its bytes; of class other are all the rest.
var classes = []struct {
	class int
	bytes string
}{
	{api.ClassBlank, blanks},
	{api.ClassNewline, "\n"},
	{api.ClassMeta, metas},
	{api.ClassQuote, quotes},
	{api.ClassLetter, letters},
	{api.ClassDigit, digits},
}

// reserved are the sixteen reserved words.
var reserved = strings.Fields("! { } case do done elif else esac fi for if in then until while")

// far are places outside any text.
var far = []int{math.MinInt, math.MinInt + 1, -api.MaxText, -2, -1, api.MaxText + 1, math.MaxInt - 1, math.MaxInt}

// all256 is each byte once.
func all256() string {
	var all []byte
	for b := range 256 {
		all = append(all, byte(b))
	}
	return string(all)
}

// in tells whether a byte is one of those.
func in(b byte, those string) bool {
	return strings.IndexByte(those, b) >= 0
}

// classOf is a byte's class by the lists.
func classOf(b byte) int {
	for _, c := range classes {
		if in(b, c.bytes) {
			return c.class
		}
	}
	return api.ClassOther
}

// texts are all texts of at most so many bytes of those.
func texts(those string, most int) []string {
	all := []string{""}
	for from := 0; most > 0; most-- {
		for to := len(all); from < to; from++ {
			for i := range len(those) {
				all = append(all, all[from]+those[i:i+1])
			}
		}
	}
	return all
}

// heads is how many bytes of those a text begins with.
func heads(s, those string) int {
	n := 0
	for n < len(s) && in(s[n], those) {
		n++
	}
	return n
}

// nameOf is how long the name is with which a text begins.
func nameOf(s string) int {
	if heads(s, letters) == 0 {
		return 0
	}
	return heads(s, letters+digits)
}

// paramOf is how long the parameter is with which a text begins.
func paramOf(s string) int {
	n := nameOf(s)
	if n == 0 && s != "" && in(s[0], digits+special) {
		return 1
	}
	return n
}

// measures are the calls that measure what stands at a place, each with what is so of the rest of a text.
var measures = []struct {
	what string
	call func(s string, at int) int
	is   func(rest string) int
}{
	{"Name", class.Name, nameOf},
	{"Digits", class.Digits, func(s string) int { return heads(s, digits) }},
	{"Blanks", class.Blanks, func(s string) int { return heads(s, blanks) }},
	{"Param", class.Param, paramOf},
}

// measured checks all that measure, at each place of a text, and outside it.
func measured(t *testing.T, s string) {
	t.Helper()
	for _, m := range measures {
		for at := range len(s) {
			if got, want := m.call(s, at), m.is(s[at:]); got != want {
				t.Errorf("%s(%q, %d) %d, not %d", m.what, s, at, got, want)
			}
		}
		for _, at := range append([]int{-1, len(s), len(s) + 1, -len(s), -len(s) - 1}, far...) {
			if (at < 0 || at >= len(s)) && m.call(s, at) != 0 {
				t.Errorf("%s(%q, %d) %d, outside", m.what, s, at, m.call(s, at))
			}
		}
	}
}

// P4.1: the class of each byte.
func TestOf(t *testing.T) {
	for i := range 256 {
		b := byte(i)
		if got, want := class.Of(b), classOf(b); got != want {
			t.Errorf("Of(%q) %d, not %d", b, got, want)
		}
	}
	for _, c := range []struct {
		bytes string
		class int
	}{
		{" \t", 1},
		{"\n", 2},
		{"|&;<>()", 3},
		{"\\'\"`$", 4},
		{"AMZamz_", 5},
		{"0459", 6},
		{"\x00\x01\v\f\r\x1b\x7f!#%*+,-.=?]^}~\x80\xa0\xc3\xff", 0},
		{"/:@[{", 0}, // right beside digits and letters
	} {
		for i := range len(c.bytes) {
			if got := class.Of(c.bytes[i]); got != c.class {
				t.Errorf("Of(%q) %d, not %d", c.bytes[i], got, c.class)
			}
		}
	}
}

// P4.1: which bytes end a word: blanks, newlines, metas, no others.
func TestEnds(t *testing.T) {
	n := 0
	for i := range 256 {
		b := byte(i)
		if got, want := class.Ends(b), in(b, " \t\n|&;<>()"); got != want {
			t.Errorf("Ends(%q) %v", b, got)
		}
		if class.Ends(b) {
			n++
		}
	}
	if n != 10 {
		t.Errorf("%d bytes end a word", n)
	}
}

// P4.1: which bytes are safe.
func TestSafe(t *testing.T) {
	n := 0
	for i := range 256 {
		b := byte(i)
		if got, want := class.Safe(b), b >= 128 || in(b, letters+digits+"%+,-./:@"); got != want {
			t.Errorf("Safe(%q) %v", b, got)
		}
		if class.Safe(b) {
			n++
		}
	}
	if n != 53+10+8+128 {
		t.Errorf("%d bytes are safe", n)
	}
	for _, b := range []byte("\x00\n !\"#$&'()*;<=>?[\\]^`{|}~\x7f") {
		if class.Safe(b) {
			t.Errorf("Safe(%q)", b)
		}
	}
}

// P4.2: names, at their beginning and within, and what is none.
func TestName(t *testing.T) {
	for _, c := range []struct {
		s     string
		at, n int
	}{
		{"x1=2", 0, 2}, // the chapter's example
		{"x1=2", 1, 0}, // a digit begins none
		{"x1=2", 2, 0},
		{"x1=2", 3, 0},
		{"x1=2", 4, 0},
		{"x1=2", 5, 0},
		{"x1=2", -1, 0},
		{"", 0, 0},
		{"", 1, 0},
		{"", -1, 0},
		{"a", 0, 1},
		{"_", 0, 1},
		{"_9", 0, 2},
		{"Zz09_aA", 0, 7},
		{"abc", 1, 2}, // a part of a name is one
		{"abc", 2, 1},
		{"1abc", 0, 0},
		{"1abc", 1, 3},
		{"12ab34", 2, 4},
		{"a123", 0, 4},
		{"a-b", 0, 1},
		{"a b", 0, 1},
		{"a\nb", 0, 1},
		{"a$b", 0, 1},
		{"a\x00b", 0, 1},
		{"a\xc3\xa9", 0, 1},
		{"\xc3\xa9a", 0, 0},
		{" a", 0, 0},
		{"=a", 0, 0},
		{"x1=2", math.MaxInt, 0},
		{"x1=2", math.MinInt, 0},
	} {
		if n := class.Name(c.s, c.at); n != c.n {
			t.Errorf("Name(%q, %d) %d, not %d", c.s, c.at, n, c.n)
		}
	}
}

// P4.2: rows of digits, and of blanks, from a place on.
func TestRows(t *testing.T) {
	for _, c := range []struct {
		s              string
		at             int
		digits, blanks int
	}{
		{"", 0, 0, 0},
		{"0", 0, 1, 0},
		{"0123456789", 0, 10, 0},
		{"0123456789", 9, 1, 0},
		{"0123456789", 10, 0, 0},
		{"12ab", 0, 2, 0},
		{"12ab", 2, 0, 0},
		{"a12", 1, 2, 0},
		{"1_2", 0, 1, 0},
		{"1 2", 0, 1, 0},
		{"1 2", 1, 0, 1},
		{"-1", 0, 0, 0},
		{" ", 0, 0, 1},
		{"\t", 0, 0, 1},
		{" \t \t", 0, 0, 4},
		{" \t \t", 3, 0, 1},
		{" \t \t", 4, 0, 0},
		{"  \n ", 0, 0, 2}, // a newline is no blank
		{"\n ", 0, 0, 0},
		{" \r", 0, 0, 1},
		{"\v\f\r", 0, 0, 0},
		{"\u00a0 ", 0, 0, 0},
		{" 1", -1, 0, 0},
		{" 1", 2, 0, 0},
		{" 1", 3, 0, 0},
		{" 1", math.MinInt, 0, 0},
		{" 1", math.MaxInt, 0, 0},
	} {
		if n := class.Digits(c.s, c.at); n != c.digits {
			t.Errorf("Digits(%q, %d) %d, not %d", c.s, c.at, n, c.digits)
		}
		if n := class.Blanks(c.s, c.at); n != c.blanks {
			t.Errorf("Blanks(%q, %d) %d, not %d", c.s, c.at, n, c.blanks)
		}
	}
}

// P4.2: parameters: a name as long as can be, one digit, one special sign.
func TestParam(t *testing.T) {
	for _, c := range []struct {
		s     string
		at, n int
	}{
		{"?a", 0, 1}, // the chapter's example
		{"?a", 1, 1},
		{"abc", 0, 3},
		{"a1b2-", 0, 4},
		{"_", 0, 1},
		{"1", 0, 1},
		{"12", 0, 1}, // one digit alone
		{"1a", 0, 1},
		{"0", 0, 1},
		{"$$", 0, 1},
		{"@@", 0, 1},
		{"$HOME", 1, 4},
		{"", 0, 0},
		{"{a}", 0, 0},
		{"(a)", 0, 0},
		{"+", 0, 0},
		{"=", 0, 0},
		{"%", 0, 0},
		{"~", 0, 0},
		{"\"", 0, 0},
		{" a", 0, 0},
		{"\n", 0, 0},
		{"\x00", 0, 0},
		{"\xc3\xa9", 0, 0},
		{"a", 1, 0},
		{"a", 2, 0},
		{"?", 1, 0},
		{"?", -1, 0},
		{"?", math.MinInt, 0},
		{"?", math.MaxInt, 0},
	} {
		if n := class.Param(c.s, c.at); n != c.n {
			t.Errorf("Param(%q, %d) %d, not %d", c.s, c.at, n, c.n)
		}
	}
	for i := range 256 {
		b := byte(i)
		want := 0
		if in(b, letters+digits+special) {
			want = 1
		}
		if n := class.Param("$"+string([]byte{b})+"?", 1); n != want {
			t.Errorf("Param of %q: %d, not %d", b, n, want)
		}
	}
}

// P4.2: all that measure, at each place of all short texts of bytes of all kinds, and outside.
func TestMeasures(t *testing.T) {
	for _, s := range texts("a_7 \t\n=?$\x80", 4) {
		measured(t, s)
		if t.Failed() {
			return // the rest would tell the same, thousands of times
		}
	}
	measured(t, all256())
	measured(t, strings.Repeat("ab12 \t", 40))
}

// P4.2: no row is too long.
func TestLong(t *testing.T) {
	n := api.MaxText + 10
	for _, c := range []struct {
		what string
		call func(s string, at int) int
		s    string
	}{
		{"Name", class.Name, "a"},
		{"Digits", class.Digits, "7"},
		{"Blanks", class.Blanks, " "},
		{"Param", class.Param, "a"},
	} {
		s := "=" + strings.Repeat(c.s, n) + "="
		for _, at := range []int{0, 1, 2, n, n + 1, n + 2} {
			want := n + 1 - at
			if at == 0 || at > n {
				want = 0
			}
			if got := c.call(s, at); got != want {
				t.Errorf("%s at %d: %d, not %d", c.what, at, got, want)
			}
		}
	}
	if name := strings.Repeat("a", n); !class.IsName(name) || class.IsName(name+"=") {
		t.Error("IsName of a long text")
	}
}

// P4.3: what is a name, the whole of it.
func TestIsName(t *testing.T) {
	for _, c := range []struct {
		s  string
		is bool
	}{
		{"", false},
		{"a", true},
		{"_", true},
		{"A9_z", true},
		{"1", false},
		{"1a", false},
		{"a=", false},
		{"=", false},
		{"=a", false},
		{"a ", false},
		{" a", false},
		{"a\n", false},
		{"a-b", false},
		{"a.b", false},
		{"?", false},
		{"$a", false},
		{"a\x00", false},
		{"a\xff", false},
		{"é", false},
		{"if", true}, // a reserved word is a name, too
	} {
		if got := class.IsName(c.s); got != c.is {
			t.Errorf("IsName(%q) %v", c.s, got)
		}
	}
}

// P4.3: assignments, parted at the first =, and what is none.
func TestAssign(t *testing.T) {
	for _, c := range []struct {
		s, name, value string
		ok             bool
	}{
		{"x1=2", "x1", "2", true}, // the chapter's example
		{"a=", "a", "", true},
		{"a=b", "a", "b", true},
		{"_=_", "_", "_", true},
		{"a==", "a", "=", true},
		{"a=b=c", "a", "b=c", true},
		{"a==b=", "a", "=b=", true},
		{"A_9= x\n", "A_9", " x\n", true},
		{"a=\x00\xff", "a", "\x00\xff", true},
		{"if=fi", "if", "fi", true},
		{"", "", "", false},
		{"=", "", "", false},
		{"==", "", "", false},
		{"=a", "", "", false},
		{"=a=b", "", "", false},
		{"a", "", "", false},
		{"abc", "", "", false},
		{"1=2", "", "", false},
		{"1a=2", "", "", false},
		{"a b=c", "", "", false},
		{"a+=b", "", "", false},
		{"a-b=c", "", "", false},
		{" a=b", "", "", false},
		{"a =b", "", "", false},
		{"a\n=b", "", "", false},
		{"$a=b", "", "", false},
		{"?=b", "", "", false},
		{"\"a\"=b", "", "", false},
		{"é=b", "", "", false},
		{"a\x00=b", "", "", false},
	} {
		name, value, ok := class.Assign(c.s)
		if name != c.name || value != c.value || ok != c.ok {
			t.Errorf("Assign(%q) %q %q %v, not %q %q %v", c.s, name, value, ok, c.name, c.value, c.ok)
		}
	}
}

// P4.3: names and assignments of all short texts of bytes of all kinds.
func TestNames(t *testing.T) {
	for _, s := range texts("aZ_09= ?\xc3", 5) {
		n := nameOf(s)
		if got := class.IsName(s); got != (s != "" && n == len(s)) {
			t.Fatalf("IsName(%q) %v", s, got)
		}
		var head, rest string
		there := n > 0 && n < len(s) && s[n] == '='
		if there {
			head, rest = s[:n], s[n+1:]
		}
		if name, value, ok := class.Assign(s); name != head || value != rest || ok != there {
			t.Fatalf("Assign(%q) %q %q %v, not %q %q %v", s, name, value, ok, head, rest, there)
		}
	}
}

// P4.3: the sixteen reserved words, and what is beside them.
func TestReserved(t *testing.T) {
	if len(reserved) != 16 {
		t.Fatalf("%d reserved words", len(reserved))
	}
	for _, s := range append([]string{"", " ", "\n", "a", "=", "[", "]", "[[", "!!", "{}", "function", "select", "time", "test", "return"}, reserved...) {
		isReserved(t, s)
	}
	bytes := all256()
	for _, word := range reserved {
		isReserved(t, strings.ToUpper(word))
		isReserved(t, word+word)
		for i := range len(word) {
			isReserved(t, word[:i]+word[i+1:]) // a byte less
		}
		for b := range len(bytes) {
			one := bytes[b : b+1]
			for i := range len(word) + 1 {
				isReserved(t, word[:i]+one+word[i:]) // a byte more
				if i < len(word) {
					isReserved(t, word[:i]+one+word[i+1:]) // another one
				}
			}
		}
	}
	for _, s := range texts("cdefhnostuw{!", 3) {
		isReserved(t, s)
	}
}

// isReserved checks whether a text is said to be a reserved word, if it is one of the list.
func isReserved(t *testing.T, s string) {
	t.Helper()
	if got, want := class.Reserved(s), slices.Contains(reserved, s); got != want {
		t.Errorf("Reserved(%q) %v", s, got)
	}
}

// P4.4: rows of bytes of one class, in their order.
func TestRuns(t *testing.T) {
	for _, c := range []struct {
		s    string
		runs []api.Run
	}{
		{"", nil},
		{"a", []api.Run{{Class: 5, From: 0, To: 1}}},
		{"\x00", []api.Run{{Class: 0, From: 0, To: 1}}},
		{" \t ", []api.Run{{Class: 1, From: 0, To: 3}}},
		{"\n\n", []api.Run{{Class: 2, From: 0, To: 2}}},
		{"|&;<>()", []api.Run{{Class: 3, From: 0, To: 7}}},
		{"\\'\"`$", []api.Run{{Class: 4, From: 0, To: 5}}},
		{"Az_", []api.Run{{Class: 5, From: 0, To: 3}}},
		{"0199", []api.Run{{Class: 6, From: 0, To: 4}}},
		{"={}!~\x00\x80\xff", []api.Run{{Class: 0, From: 0, To: 8}}},
		{"x1=2", []api.Run{{Class: 5, From: 0, To: 1}, {Class: 6, From: 1, To: 2}, {Class: 0, From: 2, To: 3}, {Class: 6, From: 3, To: 4}}},
		{"ls  -l;\n", []api.Run{{Class: 5, From: 0, To: 2}, {Class: 1, From: 2, To: 4}, {Class: 0, From: 4, To: 5}, {Class: 5, From: 5, To: 6}, {Class: 3, From: 6, To: 7}, {Class: 2, From: 7, To: 8}}},
		{"\xc3\xa9a\xc3", []api.Run{{Class: 0, From: 0, To: 2}, {Class: 5, From: 2, To: 3}, {Class: 0, From: 3, To: 4}}},
		{"a a", []api.Run{{Class: 5, From: 0, To: 1}, {Class: 1, From: 1, To: 2}, {Class: 5, From: 2, To: 3}}},
	} {
		if got := class.Runs(c.s); !slices.Equal(got, c.runs) {
			t.Errorf("Runs(%q) %v, not %v", c.s, got, c.runs)
		}
	}
}

// tiled checks that runs tile a text, each of one class, none beside one of its own.
func tiled(t *testing.T, s string) {
	t.Helper()
	at, last := 0, -1
	for _, r := range class.Runs(s) {
		if r.From != at || r.To <= r.From || r.To > len(s) || r.Class == last {
			t.Fatalf("Runs(%q): %v, behind %d and class %d", s, r, at, last)
		}
		for i := r.From; i < r.To; i++ {
			if classOf(s[i]) != r.Class {
				t.Fatalf("Runs(%q): %v has %q", s, r, s[i])
			}
		}
		at, last = r.To, r.Class
	}
	if at != len(s) {
		t.Fatalf("Runs(%q) end at %d", s, at)
	}
}

// P4.4: each class beside each other one, each byte beside each other one, and all short texts.
func TestAllRuns(t *testing.T) {
	bytes := all256()
	tiled(t, bytes)
	for i := range len(bytes) {
		for k := range len(bytes) {
			tiled(t, bytes[i:i+1]+bytes[k:k+1])
		}
		tiled(t, strings.Repeat(bytes[i:i+1], 300))
	}
	for _, s := range texts(" \n|$a7=", 5) {
		tiled(t, s)
	}
	tiled(t, strings.Repeat(bytes, 500))
	tiled(t, strings.Repeat("a ", api.MaxText/2+5))
	tiled(t, strings.Repeat("\xff", api.MaxText+10))
}

// P1: any bytes at any place: every call answers.
func TestAny(t *testing.T) {
	number := uint32(1)
	upTo := func(most int) int { // the same row of numbers each time
		number = number*1664525 + 1013904223
		return int(number>>8) % (most + 1)
	}
	for range 300 {
		var some []byte
		for range upTo(60) {
			some = append(some, byte(upTo(255)))
		}
		s := string(some)
		measured(t, s)
		tiled(t, s)
		isReserved(t, s)
		if name, value, ok := class.Assign(s); ok && (!class.IsName(name) || name+"="+value != s) || !ok && name+value != "" {
			t.Errorf("Assign(%q) %q %q %v", s, name, value, ok)
		}
	}
}

// R4: what is answered may be written over, and grown; nothing else changes by it.
func TestNew(t *testing.T) {
	const s = "a1 \n"
	want := []api.Run{{Class: 5, From: 0, To: 1}, {Class: 6, From: 1, To: 2}, {Class: 1, From: 2, To: 3}, {Class: 2, From: 3, To: 4}}
	first, second := class.Runs(s), class.Runs(s)
	clear(first[:cap(first)])
	if third := class.Runs(s); !slices.Equal(second, want) || !slices.Equal(third, want) {
		t.Errorf("%v, %v", second, third)
	}
	text := strings.Repeat("n", 20) + "=" + strings.Repeat("v", 20)
	name, value, _ := class.Assign(text)
	if within(name, text) || within(value, text) {
		t.Error("Assign answers the memory that was handed in")
	}
}

// within tells whether a text's memory lies in another one's.
func within(part, whole string) bool {
	p, w := uintptr(unsafe.Pointer(unsafe.StringData(part))), uintptr(unsafe.Pointer(unsafe.StringData(whole)))
	return p >= w && p < w+uintptr(len(whole))
}
