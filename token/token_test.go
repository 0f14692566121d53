package token_test

import (
	"math"
	"regexp"
	"slices"
	"strconv"
	"strings"
	"testing"
	"unsafe"

	"quillwort/api"
	"quillwort/literal"
	"quillwort/modes"
	"quillwort/token"
)

// piece is a token with its bytes instead of its places.
type piece struct {
	kind int
	text string
	open bool
}

// newline is a token that a newline is.
var newline = piece{kind: api.TokNewline, text: "\n"}

// blank, comment, op, number, word and here make pieces of all the other kinds; torn and endless make a word and a document that are open.
func blank(s string) piece   { return piece{kind: api.TokBlank, text: s} }
func comment(s string) piece { return piece{kind: api.TokComment, text: s} }
func op(s string) piece      { return piece{kind: api.TokOper, text: s} }
func number(s string) piece  { return piece{kind: api.TokNumber, text: s} }
func word(s string) piece    { return piece{kind: api.TokWord, text: s} }
func torn(s string) piece    { return piece{kind: api.TokWord, text: s, open: true} }
func here(s string) piece    { return piece{kind: api.TokHere, text: s} }
func endless(s string) piece { return piece{kind: api.TokHere, text: s, open: true} }

// row is a row of pieces.
func row(l ...piece) []piece { return l }

// delim and tabbed make delimiters.
func delim(s string) api.Delim  { return api.Delim{Word: s} }
func tabbed(s string) api.Delim { return api.Delim{Word: s, Tabs: true} }

// none is the lexing at a text's beginning; awaits, pends and comes make lexings: a delimiter is awaited, documents are to come, one comes next.
var none api.Lexing

func awaits(op int, l ...api.Delim) api.Lexing { return api.Lexing{Await: op, Pend: l} }
func pends(l ...api.Delim) api.Lexing          { return api.Lexing{Pend: l} }
func comes(l ...api.Delim) api.Lexing          { return api.Lexing{Pend: l, Body: true} }

// spelled is a lexing as text.
func spelled(x api.Lexing) string {
	s := strconv.Itoa(x.Await) + " " + strconv.FormatBool(x.Body)
	for _, d := range x.Pend {
		s += " " + strconv.Quote(d.Word) + " " + strconv.FormatBool(d.Tabs)
	}
	return s
}

// same tells whether two lexings are the same, without the package.
func same(a, b api.Lexing) bool {
	return spelled(a) == spelled(b)
}

// joined is the text that pieces tile, and the tokens that they are there.
func joined(l []piece) (string, []api.Token) {
	var w strings.Builder
	var tokens []api.Token
	for _, p := range l {
		from := w.Len()
		w.WriteString(p.text)
		tokens = append(tokens, api.Token{Kind: p.kind, From: from, To: w.Len(), Open: p.open})
	}
	return w.String(), tokens
}

// means tells whether a kind's tokens are leaves.
func means(kind int) bool {
	return kind == api.TokOper || kind == api.TokNumber || kind == api.TokWord || kind == api.TokNewline
}

// takes checks all that is told of a text that is a row of pieces, and the lexing behind it; false: it is otherwise.
func takes(t *testing.T, x api.Lexing, l []piece) bool {
	t.Helper()
	s, want := joined(l)
	got, behind := token.Lex(s)
	if !slices.Equal(got, want) || !same(behind, x) {
		t.Errorf("Lex(%q) %v, %s, not %v, %s", s, got, spelled(behind), want, spelled(x))
		return false
	}
	var leaves []api.Leaf
	var y api.Lexing
	for i, w := range want {
		var step api.Token
		if step, y = token.Step(s, w.From, y); step != w {
			t.Errorf("Step(%q, %d) %v, not %v", s, w.From, step, w)
			return false
		}
		if text := token.Text(s, w); text != l[i].text {
			t.Errorf("Text(%q, %v) %q, not %q", s, w, text, l[i].text)
			return false
		}
		for at := w.From; at < w.To; at++ {
			if n := token.At(want, at); n != i {
				t.Errorf("At(%v, %d) %d, not %d", want, at, n, i)
				return false
			}
		}
		if means(w.Kind) {
			leaves = append(leaves, api.Leaf{Kind: w.Kind, Text: l[i].text, From: w.From, To: w.To})
		}
	}
	if !same(y, x) {
		t.Errorf("step by step behind %q: %s, not %s", s, spelled(y), spelled(x))
		return false
	}
	if got := token.Leaves(s, want); !slices.Equal(got, leaves) {
		t.Errorf("Leaves(%q) %v, not %v", s, got, leaves)
		return false
	}
	return true
}

// lexed are texts by their tokens, and the lexings behind them.
var lexed = []struct {
	pieces []piece
	x      api.Lexing
}{
	{row(word("cat"), blank(" "), op("<<"), word("E"), newline, here("x\nE")), none}, // the chapter's example
	{row(), none},

	{row(blank(" ")), none}, // blanks
	{row(blank("\t")), none},
	{row(blank(" \t  \t")), none},
	{row(blank("  "), word("a"), blank("\t\t"), word("b"), blank(" ")), none},
	{row(blank("\\\n")), none},
	{row(blank("\\\n\\\n")), none},
	{row(blank(" \\\n\t\\\n\\\n ")), none},
	{row(blank("\\\n"), word("a")), none},
	{row(word("a"), blank(" \\\n")), none},
	{row(word("a"), blank(" \\\n\t"), word("b")), none},
	{row(word("a\\\nb")), none},
	{row(word("a\\\n"), blank(" "), word("b")), none},
	{row(op(";"), blank("\\\n"), op("&")), none},
	{row(op("<"), blank("\\\n"), op("<")), none},
	{row(blank("\\\n"), comment("#a")), none},
	{row(newline, blank("\\\n"), newline), none},
	{row(blank(" "), torn("\\")), none},
	{row(blank(" \\\n"), torn("\\")), none},
	{row(torn("\\")), none},
	{row(word("\\a")), none},
	{row(blank(" "), word("\\ b"), blank(" ")), none},
	{row(word("\\\\"), newline), none},
	{row(blank("\t"), word("\\\\"), newline), none},
	{row(word("\\;"), op(";")), none},

	{row(newline), none}, // newlines
	{row(newline, newline, newline), none},
	{row(newline, word("a"), newline, newline, word("b"), newline), none},
	{row(blank(" "), newline, blank("\t"), newline), none},
	{row(word("a\r"), newline), none},

	{row(comment("#")), none}, // comments
	{row(comment("#a b")), none},
	{row(comment("#a"), newline), none},
	{row(comment("#"), newline, comment("##")), none},
	{row(word("a"), blank(" "), comment("#b;c"), newline, word("d")), none},
	{row(word("a"), blank(" "), comment("#")), none},
	{row(newline, comment("#a"), newline, word("b")), none},
	{row(op(";"), comment("#a")), none},
	{row(op("("), comment("#a)"), newline, op(")")), none},
	{row(op("<"), comment("#a")), none},
	{row(comment("#'\"`$("), newline, word("a")), none},
	{row(comment("#a\\"), newline, word("b")), none},
	{row(comment("#<<E"), newline, word("E")), none},
	{row(comment("#a\r"), newline), none},
	{row(word("a#b")), none},
	{row(word("a#"), blank(" "), word("b##c")), none},
	{row(word("''#a")), none},
	{row(word("\\#a")), none},
	{row(word("$#a")), none},
	{row(word("$(a)#b")), none},
	{row(word("1#"), op("<")), none},
	{row(word("a\\\n#b")), none},

	{row(op("&&"), op("&")), none}, // operators: the longest one
	{row(op("||"), op("|")), none},
	{row(op(";;"), op(";")), none},
	{row(op(">>"), op(">")), none},
	{row(op(">|"), op("|")), none},
	{row(op(">&"), op("&")), none},
	{row(op("<>"), op(">")), none},
	{row(op("<&"), op("&&")), none},
	{row(op("<<"), op("<")), none},
	{row(op("<<"), op("<&")), none},
	{row(op("<"), op("|")), none},
	{row(op("&"), op(">>")), none},
	{row(op("|"), op("&")), none},
	{row(op("<"), word("-")), none},
	{row(op("<"), blank(" "), op("<")), none},
	{row(op("("), op("("), op(")"), op(")")), none},
	{row(word("a"), op("("), word("b"), op(")"), word("c")), none},
	{row(word("a"), op("&&"), word("b"), op("||"), word("c"), op(";"), word("d"), op("&")), none},

	{row(number("1"), op("<")), none}, // numbers
	{row(number("0123456789"), op(">")), none},
	{row(number("12"), op(">>"), word("a")), none},
	{row(number("1"), op("<"), number("2"), op(">")), none},
	{row(word("a"), blank(" "), number("2"), op(">&"), word("1")), none},
	{row(number("2"), op(">&"), number("1"), op(">|"), word("a")), none},
	{row(op(";"), number("3"), op("<>"), word("a")), none},
	{row(newline, number("4"), op("<&"), word("-")), none},
	{row(blank("\\\n"), number("5"), op("<")), none},
	{row(word("1")), none},
	{row(word("12"), blank(" "), word("34")), none},
	{row(word("1"), blank(" "), op("<")), none},
	{row(word("1"), blank("\t"), op(">")), none},
	{row(word("1a"), op("<")), none},
	{row(word("1a2"), op(">")), none},
	{row(word("a1"), op("<")), none},
	{row(word("1_"), op("<")), none},
	{row(word("-1"), op("<")), none},
	{row(word("1\\\n"), op("<")), none},
	{row(word("1''"), op("<")), none},
	{row(word("'1'"), op("<")), none},
	{row(word("$1"), op("<")), none},
	{row(word("1$"), op(">")), none},
	{row(word("1"), op("&")), none},
	{row(word("1"), op("|")), none},
	{row(word("1"), op(";")), none},
	{row(word("1"), op("(")), none},
	{row(word("1"), op(")")), none},
	{row(word("1"), newline, op("<")), none},
	{row(word("1"), op("&"), op(">")), none},

	{row(word("a")), none}, // words that are shut
	{row(word("'a b'")), none},
	{row(word("\"a;b\"")), none},
	{row(word("`a|b`")), none},
	{row(word("$(a b)")), none},
	{row(word("$(a;(b)|c\n)d"), op(")")), none},
	{row(word("$(a #b)\n)"), blank(" "), word("c")), none},
	{row(word("$(cat <<E\nx\nE\n)"), newline), none},
	{row(word("${a b}")), none},
	{row(word("${a:-'}'}")), none},
	{row(word("$((1 + (2)))"), op("&")), none},
	{row(word("$(((1)+(2)))")), none},
	{row(word("a'b 'c\" d\"e`f `$(g h)${i j}$((k l))")), none},
	{row(word("\"a $(b \"c d\" 'e\n') f\""), newline), none},
	{row(word("a\\ b"), blank(" "), word("\\'c")), none},
	{row(word("''")), none},
	{row(word("\"\""), op(";")), none},
	{row(word("{"), blank(" "), word("a=b"), op(";"), blank(" "), word("}")), none},
	{row(word("!"), blank(" "), word("[*?]~")), none},
	{row(word("$")), none},
	{row(word("a$")), none},
	{row(word("$"), blank(" "), word("a")), none},
	{row(word("$"), newline), none},
	{row(word("$"), op(";")), none},
	{row(word("$"), op("<")), none},
	{row(word("$"), op(")")), none},
	{row(word("$$")), none},
	{row(word("$$"), op("("), word("a"), op(")")), none},
	{row(word("\"a$\"b")), none},

	{row(torn("'a b\n;")), none}, // words that are open
	{row(torn("\"a b\n;")), none},
	{row(torn("`a;\n")), none},
	{row(torn("$(a b;\n")), none},
	{row(torn("$(a (b)")), none},
	{row(torn("$(a #b)")), none},
	{row(torn("$(")), none},
	{row(torn("${a b")), none},
	{row(torn("${")), none},
	{row(torn("$((1 +")), none},
	{row(torn("$((1) ")), none},
	{row(torn("$((1)+(2))")), none},
	{row(torn("$((")), none},
	{row(word("a"), blank(" "), torn("b\\")), none},
	{row(torn("\"a$")), none},
	{row(torn("\"a\\")), none},
	{row(torn("\"$(a 'b")), none},
	{row(torn("'")), none},
	{row(op(";"), torn("a'b; c\n<<E\nE\n")), none},

	{row(op("<<"), word("E")), pends(delim("E"))}, // delimiters
	{row(op("<<-"), word("E")), pends(tabbed("E"))},
	{row(op("<<"), blank(" "), word("E")), pends(delim("E"))},
	{row(op("<<-"), blank("\t  "), word("E")), pends(tabbed("E"))},
	{row(op("<<"), blank(" "), word("-E")), pends(delim("-E"))},
	{row(op("<<"), blank(" \\\n"), word("E")), pends(delim("E"))},
	{row(op("<<-"), blank("\\\n"), word("E\\\n")), pends(tabbed("E"))},
	{row(word("a"), op("<<"), word("E"), blank(" "), word("F")), pends(delim("E"))},
	{row(word("a"), op("<<"), word("E"), op(";"), word("F")), pends(delim("E"))},
	{row(number("3"), op("<<"), word("E"), op("|"), word("F")), pends(delim("E"))},
	{row(op("<<"), word("E"), blank(" "), comment("#F")), pends(delim("E"))},
	{row(op("<<-"), word("-")), pends(tabbed("-"))},
	{row(op("<<"), word("E-")), pends(delim("E-"))},
	{row(op("<<"), word("'E'")), pends(delim("E"))},
	{row(op("<<"), word("'E F'")), pends(delim("E F"))},
	{row(op("<<-"), word("E'F'\\G\"H\"")), pends(tabbed("EFGH"))},
	{row(op("<<"), word("\\E")), pends(delim("E"))},
	{row(op("<<"), word("E\\\n"), blank(" ")), pends(delim("E"))},
	{row(op("<<"), word("\"E\\\nF\"")), pends(delim("EF"))},
	{row(op("<<"), word("''")), pends(delim(""))},
	{row(op("<<-"), word("\"\"")), pends(tabbed(""))},
	{row(op("<<"), word("$a")), pends(delim("$a"))},
	{row(op("<<"), word("\"$a\"")), pends(delim("$a"))},
	{row(op("<<"), word("$(a b)`c d`")), pends(delim("$(a b)`c d`"))},
	{row(op("<<"), word("'a\nb'")), pends(delim("a\nb"))},
	{row(op("<<"), word("E#")), pends(delim("E#"))},
	{row(op("<<"), word("1")), pends(delim("1"))},
	{row(op("<<"), word("1"), op("|")), pends(delim("1"))},
	{row(op("<<"), torn("'E\n")), pends(delim("E\n"))},
	{row(op("<<-"), torn("E\\")), pends(tabbed("E"))},
	{row(op("<<"), torn("\\")), pends(delim(""))},

	{row(op("<<")), awaits(4)}, // delimiters that lack
	{row(op("<<-")), awaits(5)},
	{row(op("<<"), blank(" ")), awaits(4)},
	{row(op("<<-"), blank(" \\\n")), awaits(5)},
	{row(op("<<"), newline), none},
	{row(op("<<"), newline, word("E"), newline, word("E")), none},
	{row(op("<<-"), blank(" "), newline, word("E")), none},
	{row(op("<<"), comment("#E")), none},
	{row(op("<<"), blank(" "), comment("#E"), newline, word("E"), newline, word("E")), none},
	{row(op("<<"), op(";"), word("E"), newline, word("E")), none},
	{row(op("<<-"), op("|"), blank(" "), word("E")), none},
	{row(op("<<"), op("("), word("E"), op(")")), none},
	{row(op("<<"), op("<"), word("E")), none},
	{row(op("<<-"), op(">"), word("E")), none},
	{row(op("<<"), number("1"), op("<"), word("E")), none},
	{row(op("<<-"), blank(" "), number("1"), op(">"), word("E")), none},
	{row(op("<<"), op("<<")), awaits(4)},
	{row(op("<<"), op("<<-")), awaits(5)},
	{row(op("<<-"), op("<<")), awaits(4)},
	{row(op("<<"), op("<<"), word("E")), pends(delim("E"))},
	{row(op("<<-"), op("<<"), word("E")), pends(delim("E"))},
	{row(op("<<"), op("<<-"), word("E")), pends(tabbed("E"))},
	{row(op("<<"), number("1"), op("<<-"), word("E")), pends(tabbed("E"))},
	{row(op("<<"), word("E"), op("<<")), awaits(4, delim("E"))},
	{row(op("<<"), word("E"), blank(" "), op("<<-"), blank(" ")), awaits(5, delim("E"))},
	{row(op("<<"), word("E"), op("<<"), newline, here("E")), none},

	{row(op("<<"), word("E"), newline), comes(delim("E"))}, // documents
	{row(op("<<"), word("E"), newline, here("E")), none},
	{row(op("<<"), word("E"), newline, here("E\n")), none},
	{row(op("<<"), word("E"), newline, here("E\n"), word("a")), none},
	{row(op("<<"), word("E"), newline, here("E\n"), newline), none},
	{row(op("<<"), word("E"), newline, here("a\nE\n"), blank(" "), comment("#b")), none},
	{row(op("<<"), word("E"), newline, here("a\nb c\n;\nE")), none},
	{row(op("<<"), word("E"), newline, here("\nE\n")), none},
	{row(op("<<"), word("E"), newline, here("\n\na\n\nE\n"), number("1"), op("<")), none},
	{row(op("<<"), word("E"), newline, here("EE\nE \n E\n\tE\nE\r\nE#\ne\nE\n")), none},
	{row(op("<<"), word("E"), newline, here("'\n\"\n`$(\nE\n"), word("a")), none},
	{row(op("<<"), word("E"), newline, here("a\\\nE\n")), none},
	{row(op("<<"), word("E"), newline, here("<<F\nE\n"), word("F")), none},
	{row(op("<<"), word("EF"), newline, here("E\nF\nEF\n")), none},
	{row(op("<<"), word("'E F'"), newline, here("E\nE F\n")), none},
	{row(op("<<"), word("\\E"), newline, here("\\E\nE\n")), none},
	{row(op("<<"), word("$a"), newline, here("a\n$a\n")), none},
	{row(op("<<"), word("E\\\n"), newline, here("E\n")), none},
	{row(op("<<"), word("E"), blank(" \\\n"), word("a"), newline, here("E\n")), none},
	{row(op("<<"), word("E"), blank(" "), word("'a\nb'"), newline, here("b'\nE\n")), none},
	{row(op("<<"), word("E"), op(";"), newline, here("a\nE\n"), word("b")), none},
	{row(op("<<"), word("E"), blank(" "), comment("#a"), newline, here("E\n"), comment("#b")), none},

	{row(op("<<"), word("E"), newline, endless("a")), comes(delim("E"))}, // documents whose delimiter lacks
	{row(op("<<"), word("E"), newline, endless("a\n")), comes(delim("E"))},
	{row(op("<<"), word("E"), newline, endless("\n")), comes(delim("E"))},
	{row(op("<<"), word("E"), newline, endless("\n\n")), comes(delim("E"))},
	{row(op("<<"), word("E"), newline, endless("EE\n")), comes(delim("E"))},
	{row(op("<<"), word("E"), newline, endless("E \n")), comes(delim("E"))},
	{row(op("<<"), word("E"), newline, endless(" E\n")), comes(delim("E"))},
	{row(op("<<"), word("E"), newline, endless("E\r\n")), comes(delim("E"))},
	{row(op("<<"), word("E"), newline, endless("aE\n\"\nE;\n'E'")), comes(delim("E"))},
	{row(op("<<"), word("EE"), newline, endless("E\n")), comes(delim("EE"))},
	{row(op("<<"), word("'a\nb'"), newline, endless("a\nb\n")), comes(delim("a\nb"))},
	{row(op("<<"), word("'E\n'"), newline, endless("E\n\nE")), comes(delim("E\n"))},

	{row(op("<<-"), word("E"), newline, here("E\n"), word("a")), none}, // tabs
	{row(op("<<-"), word("E"), newline, here("\tE\n"), word("a")), none},
	{row(op("<<-"), word("E"), newline, here("\t\t\ta\n\t\tE\n"), word("b")), none},
	{row(op("<<-"), word("E"), newline, here("\t\n\n\tE")), none},
	{row(op("<<-"), word("E"), newline, here(" E\n\t E\n \tE\n\tE\t\n\tEE\nE")), none},
	{row(op("<<-"), word("E"), newline, endless("\t E\n")), comes(tabbed("E"))},
	{row(op("<<-"), word("E"), newline, endless("\tE\t\n")), comes(tabbed("E"))},
	{row(op("<<-"), word("E"), newline, endless("\t")), comes(tabbed("E"))},
	{row(op("<<-"), word("'\tE'"), newline, endless("\tE\nE\n")), comes(tabbed("\tE"))},
	{row(op("<<-"), word("'E\t'"), newline, here("\tE\n\tE\t\n")), none},
	{row(op("<<"), word("E"), newline, endless("\tE\n")), comes(delim("E"))},
	{row(op("<<"), word("E"), newline, here("\tE\nE\n")), none},
	{row(op("<<"), word("'\tE'"), newline, here("E\n\t\tE\n\tE\n")), none},

	{row(op("<<"), word("''"), newline), comes(delim(""))}, // an empty delimiter
	{row(op("<<"), word("''"), newline, here("\n"), word("a")), none},
	{row(op("<<"), word("''"), newline, here("a\n\n"), newline, word("b")), none},
	{row(op("<<"), word("\"\""), newline, endless("a")), comes(delim(""))},
	{row(op("<<"), word("''"), newline, endless("a\n")), comes(delim(""))},
	{row(op("<<"), word("''"), newline, endless("\t\n")), comes(delim(""))},
	{row(op("<<-"), word("''"), newline, here("\t\n"), word("a")), none},
	{row(op("<<-"), word("''"), newline, here("a\n\t\t")), none},
	{row(op("<<-"), word("''"), newline, here("\n"), newline), none},

	{row(op("<<"), word("A"), blank(" "), op("<<"), word("B"), newline, here("a\nA\n"), here("b\nB\n"), word("c")), none}, // more than one
	{row(op("<<"), word("A"), op("<<"), word("B"), newline, here("A\n"), here("B")), none},
	{row(op("<<"), word("A"), op("<<-"), word("B"), newline, here("A\n"), here("\tB\n"), newline), none},
	{row(op("<<-"), word("A"), op("<<"), word("B"), newline, here("\tA\n"), endless("\tB\n")), comes(delim("B"))},
	{row(op("<<"), word("A"), op("<<-"), word("B"), newline, endless("\tA\n\tB\n")), comes(delim("A"), tabbed("B"))},
	{row(op("<<"), word("A"), op("<<"), word("B"), newline, here("B\nA\n"), here("B\n")), none},
	{row(op("<<"), word("A"), op("<<"), word("B"), newline, here("b\nB\nA\n"), here("A\nb\nB\n"), word("A")), none},
	{row(op("<<"), word("A"), op("<<"), word("B"), newline, endless("B\nb\n")), comes(delim("A"), delim("B"))},
	{row(op("<<"), word("A"), op("<<"), word("B"), newline, here("A\n")), comes(delim("B"))},
	{row(op("<<"), word("A"), op("<<"), word("B"), newline, here("A")), comes(delim("B"))},
	{row(op("<<"), word("A"), op("<<"), word("B"), newline, here("A\n"), endless("A\nb")), comes(delim("B"))},
	{row(op("<<"), word("A"), op("<<"), word("B"), newline), comes(delim("A"), delim("B"))},
	{row(op("<<"), word("A"), blank(" "), op("<<"), blank(" "), word("B")), pends(delim("A"), delim("B"))},
	{row(op("<<"), word("A"), op("<<"), word("A"), newline, here("A\n"), here("A\n"), word("A")), none},
	{row(op("<<"), word("''"), op("<<"), word("''"), newline, here("\n"), here("\n"), newline), none},
	{row(op("<<"), word("A"), op("|"), word("a"), op("<<"), word("B"), op("&"), newline, here("A\n"), here("B\n")), none},
	{row(op("<<"), word("A"), op("<<-"), word("B"), blank(" "), number("3"), op("<<"), word("C"), newline, here("B\nC\nA\n"), here("\tC\n\tB\n"), here("\tC\nC\n"), word("d")), none},
	{row(op("<<"), word("A"), op("<<"), word("B"), op("<<"), word("C"), newline, here("A\n"), here("B\n"), endless("c")), comes(delim("C"))},
	{row(op("<<"), word("A"), op("<<"), word("B"), op("<<"), word("C"), newline, here("A\n"), endless("C\n")), comes(delim("B"), delim("C"))},
	{row(op("<<"), word("A"), newline, here("A\n"), op("<<"), word("B"), newline, here("B\n"), op("<<")), awaits(4)},

	{row(word("\x00")), none}, // zero bytes, and bytes of 128 and more
	{row(word("\xff\x00"), blank(" "), word("\x80"), newline), none},
	{row(word("\xc3\xa9"), op(";"), comment("#\x00\xff"), newline), none},
	{row(word("a\xc2\xa0b")), none},
	{row(word("1\x00"), op("<")), none},
	{row(word("1\xff"), op(">")), none},
	{row(torn("'\x00")), none},
	{row(word("\\\xff"), blank("\t"), word("\\\x00")), none},
	{row(op("<<"), word("\x00"), newline, here("\x00\x00\n\x00\n"), word("\xff")), none},
	{row(op("<<-"), word("'\xff'"), newline, here("\xff\x00\n\t\xff")), none},
	{row(op("<<"), word("\xff\xc3"), newline, endless("\xff\n\xc3\n\xff\xc3\xa9")), comes(delim("\xff\xc3"))},
}

// P9.1, P9.2, P9.3: the tokens of texts.
func TestTokens(t *testing.T) {
	for _, c := range lexed {
		takes(t, c.x, c.pieces)
	}
}

// samples are tokens of all kinds but Here.
var samples = row(blank(" "), blank("\\\n"), newline, comment("#a"), op(";"), op("&&"), op("<"), number("1"), word("a"), word("'b c'"))

// parted tells whether two samples are both as they are, if one stands right behind the other.
func parted(p, q piece) bool {
	switch p.kind {
	case api.TokBlank, api.TokOper:
		return q.kind != p.kind
	case api.TokNumber:
		return q.text == "<"
	case api.TokComment:
		return q.kind == api.TokNewline
	case api.TokWord:
		return q.text == " " || q.kind == api.TokOper || q.kind == api.TokNewline
	}
	return true
}

// P9.1, P9.2, P9.3: each kind of token alone, at a text's beginning, in its midst and at its end, beside each kind.
func TestBeside(t *testing.T) {
	rows := [][]piece{nil}
	for n := 0; n < len(rows); n++ {
		l := rows[n]
		if len(l) == 0 || l[len(l)-1].kind != api.TokNumber { // a number has a redirection behind it
			takes(t, none, l)
		}
		for _, p := range samples {
			if len(l) < 4 && (len(l) == 0 || parted(l[len(l)-1], p)) {
				rows = append(rows, append(slices.Clone(l), p))
			}
		}
	}
	if len(rows) < 1000 {
		t.Errorf("%d rows", len(rows))
	}
}

// operators are all of them.
var operators = []string{"&&", "||", ";;", "<<", "<<-", ">>", "<&", ">&", "<>", ">|", "<", ">", "&", ";", "|", "(", ")"}

// P9.1: each operator, alone, between all else, and ahead of each other one.
func TestOperators(t *testing.T) {
	for _, o := range operators {
		x, y := none, none // behind it, and behind a word that follows
		switch o {
		case "<<":
			x, y = awaits(4), pends(delim("b"))
		case "<<-":
			x, y = awaits(5), pends(tabbed("b"))
		}
		takes(t, x, row(op(o)))
		takes(t, x, row(blank(" "), op(o)))
		takes(t, x, row(op(o), blank(" ")))
		takes(t, x, row(newline, op(o)))
		takes(t, none, row(op(o), newline))
		takes(t, x, row(word("a"), op(o)))
		takes(t, y, row(op(o), word("b")))
		takes(t, y, row(word("a"), op(o), word("b")))
		takes(t, y, row(word("a"), blank(" "), op(o), blank(" "), word("b"), blank(" ")))
		takes(t, y, row(word("'a'"), op(o), word("b"), op(";")))
		takes(t, none, row(op(o), comment("#a")))
		takes(t, none, row(op(o), blank(" "), op(";")))
		if o[0] == '<' || o[0] == '>' {
			takes(t, x, row(number("12"), op(o)))
			takes(t, y, row(blank(" "), number("12"), op(o), word("b")))
		} else {
			takes(t, x, row(word("12"), op(o)))
		}
		for _, p := range operators {
			l := longest(o + p)
			if len(l) == 2 {
				x = none
				switch l[1].text {
				case "<<":
					x = awaits(4)
				case "<<-":
					x = awaits(5)
				}
				takes(t, x, l)
			}
		}
	}
}

// longest is a row of operators, the longest one that stands there each time.
func longest(s string) []piece {
	var l []piece
	for s != "" {
		best := ""
		for _, o := range operators {
			if strings.HasPrefix(s, o) && len(o) > len(best) {
				best = o
			}
		}
		if best == "" {
			return nil
		}
		l = append(l, op(best))
		s = s[len(best):]
	}
	return l
}

// P9.1: each byte alone, and beside others.
func TestBytes(t *testing.T) {
	for b := range 256 {
		one := string([]byte{byte(b)})
		switch {
		case strings.Contains(" \t", one):
			takes(t, none, row(blank(one)))
			takes(t, none, row(word("a"), blank(one), word("c")))
			takes(t, none, row(op(";"), blank(one+one), op(";")))
		case one == "\n":
			takes(t, none, row(newline))
			takes(t, none, row(word("a"), newline, word("c")))
		case one == "#":
			takes(t, none, row(comment(one)))
			takes(t, none, row(word("a#c")))
		case strings.Contains("|&;<>()", one):
			takes(t, none, row(op(one)))
			takes(t, none, row(word("a"), op(one), word("c")))
			takes(t, none, row(word("\\"+one), blank(" ")))
		case strings.Contains("\\'\"`", one):
			takes(t, none, row(torn(one)))
			takes(t, none, row(word("\\"+one)))
			takes(t, none, row(blank(" "), word("\\"+one+"a"), newline))
		default:
			takes(t, none, row(word(one)))
			takes(t, none, row(word("a"+one+"c")))
			takes(t, none, row(word("\\"+one), blank(" ")))
			takes(t, none, row(op(";"), word(one), op("|"), word(one), newline))
			takes(t, none, row(op("<<"), blank(" "), word(one), newline, here(one+"a\na"+one+"\n"+one+"\n"), word(one)))
		}
		if one != "\n" {
			takes(t, none, row(comment("#"+one), newline, word("a")))
			takes(t, comes(delim("E")), row(op("<<"), word("E"), newline, endless("E"+one)))
			takes(t, comes(delim("E")), row(op("<<"), word("E"), newline, endless(one+"E\n")))
		}
		if one != "'" {
			takes(t, none, row(word("'"+one+"'")))
			takes(t, pends(delim(one+"E")), row(op("<<"), word("'"+one+"E'"), blank(" ")))
		}
		if one != "<" && one != ">" && !strings.Contains("0123456789", one) {
			if got, _ := token.Step("1"+one, 0, none); got.Kind != api.TokWord {
				t.Errorf("Step(%q) %v", "1"+one, got)
			}
		}
	}
}

// begins are what a token begins with that is neither a Here nor a Word, the first that is so: the part within the brackets is the token.
var begins = []struct {
	kind int
	re   *regexp.Regexp
}{
	{api.TokBlank, regexp.MustCompile("^((?:[ \t]|\\\\\n)+)")},
	{api.TokNewline, regexp.MustCompile("^(\n)")},
	{api.TokComment, regexp.MustCompile("^(#[^\n]*)")},
	{api.TokOper, regexp.MustCompile(`^(<<-|&&|\|\||;;|<<|>>|<&|>&|<>|>\||[<>&;|()])`)},
	{api.TokNumber, regexp.MustCompile("^([0-9]+)[<>]")},
}

// plainly is the token at a place of a text, and the lexing behind it, as the chapter's lines tell them.
func plainly(s string, at int, x api.Lexing) (api.Token, api.Lexing) {
	if at < 0 || at >= len(s) {
		return api.Token{}, x
	}
	if x.Body {
		return document(s, at, x)
	}
	for _, b := range begins {
		if m := b.re.FindStringSubmatch(s[at:]); m != nil {
			return api.Token{Kind: b.kind, From: at, To: at + len(m[1])}, behind(b.kind, m[1], x)
		}
	}
	to := at
	show := "T"
	for ; to < len(s); to++ { // a new machine goes up to each place
		frames, _ := modes.Run(s[at:to])
		show = modes.Show(frames)
		if strings.Contains(" \t\n|&;<>()", s[to:to+1]) && (show == "T" || show == "TL" && s[to] != '(') {
			break
		}
	}
	frames, _ := modes.Run(s[at:to])
	show = modes.Show(frames)
	return api.Token{Kind: api.TokWord, From: at, To: to, Open: show != "T" && show != "TL"}, behind(api.TokWord, s[at:to], x)
}

// document is that of a place where a document comes.
func document(s string, at int, x api.Lexing) (api.Token, api.Lexing) {
	to := at
	for to < len(s) && len(x.Pend) > 0 {
		end := strings.Index(s[to:]+"\n", "\n") + to
		line := s[to:end]
		for x.Pend[0].Tabs && line != "" && line[0] == '\t' {
			line = line[1:]
		}
		to = min(end+1, len(s))
		if line == x.Pend[0].Word {
			rest := slices.Clone(x.Pend[1:])
			return api.Token{Kind: api.TokHere, From: at, To: to}, api.Lexing{Await: x.Await, Pend: rest, Body: len(rest) > 0}
		}
	}
	return api.Token{Kind: api.TokHere, From: at, To: len(s), Open: true}, x
}

// behind is the lexing behind a token that isn't a Here.
func behind(kind int, text string, x api.Lexing) api.Lexing {
	if kind == api.TokBlank {
		return x
	}
	y := api.Lexing{Pend: slices.Clone(x.Pend), Body: x.Body}
	if text == "<<" {
		y.Await = 4
	}
	if text == "<<-" {
		y.Await = 5
	}
	if kind == api.TokNewline {
		y.Body = len(y.Pend) > 0
	}
	if kind == api.TokWord && x.Await != 0 {
		y.Pend = append(y.Pend, api.Delim{Word: literal.Bare(text), Tabs: x.Await == 5})
	}
	return y
}

// all are all texts of at most so many bytes of those.
func all(those string, most int) []string {
	l := []string{""}
	for from := 0; most > 0; most-- {
		for to := len(l); from < to; from++ {
			for i := range len(those) {
				l = append(l, l[from]+those[i:i+1])
			}
		}
	}
	return l
}

// parting are bytes that a token's kind and its end hang on, and some more.
const parting = " \n\\#<>-&;|(1a'$"

// many are all short texts, and such texts behind beginnings that turn something.
func many() []string {
	l := append(all(parting, 4), all("<-E\n\t ", 5)...)
	for _, head := range []string{"<<E\n", "<<-E\n", "<<''\n", "<<-''\n", "<<E<<-a\n", "<<-a <<E\n", "<<E<<a<<E\n"} {
		for _, s := range all("E\n\ta ", 4) {
			l = append(l, head+s)
		}
	}
	for _, head := range []string{"a ", "'", "\"", "`", "#", "\\", "$", "${", "\"${", "$(", "$(a(", "$((", "$((1)", "a$b", "''", "<<", "<<-", "<< \\\n", "<<E", "<<E ", "1", "$$", "\x00", "\xff"} {
		for _, s := range all(parting+"\"`{})", 2) {
			l = append(l, head+s, head+s+" a", s+head, head+s+"\nE\n;")
		}
	}
	return l
}

// P9.1, P9.3: all short texts, whose tokens are the chapter's, one behind the other, tile them, and are none of them empty.
func TestTexts(t *testing.T) {
	l := many()
	for _, s := range l {
		var want []api.Token
		var x api.Lexing
		for at := 0; at < len(s); {
			var w api.Token
			w, x = plainly(s, at, x)
			want = append(want, w)
			at = w.To
		}
		got, behind := token.Lex(s)
		if !slices.Equal(got, want) || !same(behind, x) {
			t.Errorf("Lex(%q) %v, %s, not %v, %s", s, got, spelled(behind), want, spelled(x))
			return // the rest would tell the same, thousands of times
		}
		if !tiles(s, got) {
			t.Errorf("Lex(%q) %v", s, got)
			return
		}
	}
	if len(l) < 50000 {
		t.Errorf("%d texts", len(l))
	}
}

// tiles tells whether tokens lie one right behind the other in a text, all of it, and none is empty.
func tiles(s string, l []api.Token) bool {
	at := 0
	for _, t := range l {
		if t.From != at || t.To <= at || t.Kind < api.TokBlank || t.Kind > api.TokHere {
			return false
		}
		if t.Open && (t.To != len(s) || t.Kind != api.TokWord && t.Kind != api.TokHere) {
			return false
		}
		at = t.To
	}
	return at == len(s)
}

// lexings are some that texts' beginnings lead to.
var lexings = []api.Lexing{
	none, awaits(4), awaits(5), pends(delim("E")), pends(tabbed("a"), delim("")), awaits(4, delim("a")), awaits(5, tabbed(""), delim("E")),
	comes(delim("E")), comes(tabbed("E")), comes(delim("")), comes(tabbed("")), comes(delim("a"), tabbed("E")), comes(tabbed("1"), delim("E")), comes(delim("a b")), comes(delim("\n")),
}

// P9.1: Step at all places of short texts, and outside of them, by each lexing.
func TestStep(t *testing.T) {
	l := append(all(parting, 3), all("E\n\ta", 4)...)
	l = append(l, "E\n", "\tE\na", "a b\nE", "a\n\tE\nE\n", "1\nE\n", "<<'a b'", "cat <<E; b 2>c\nE\n", "\x00\xff \x80")
	for _, s := range l {
		for at := -2; at <= len(s)+2; at++ {
			for _, x := range lexings {
				want, y := plainly(s, at, x)
				if got, behind := token.Step(s, at, x); got != want || !same(behind, y) {
					t.Errorf("Step(%q, %d, %s) %v, %s, not %v, %s", s, at, spelled(x), got, spelled(behind), want, spelled(y))
					return
				}
			}
		}
	}
}

// P9.1: Step by hand, from places within texts on, by lexings of all kinds.
func TestStepped(t *testing.T) {
	for _, c := range []struct {
		s    string
		at   int
		x    api.Lexing
		want api.Token
		then api.Lexing
	}{
		{"abc", 0, none, api.Token{Kind: api.TokWord, To: 3}, none},
		{"abc", 1, none, api.Token{Kind: api.TokWord, From: 1, To: 3}, none},
		{"a#b", 1, none, api.Token{Kind: api.TokComment, From: 1, To: 3}, none},
		{"<<-", 1, none, api.Token{Kind: api.TokOper, From: 1, To: 2}, none},
		{"<<-", 2, none, api.Token{Kind: api.TokWord, From: 2, To: 3}, none},
		{"a1<", 1, none, api.Token{Kind: api.TokNumber, From: 1, To: 2}, none},
		{"'a b", 1, none, api.Token{Kind: api.TokWord, From: 1, To: 2}, none},
		{"a\\\n b", 1, none, api.Token{Kind: api.TokBlank, From: 1, To: 4}, none},
		{"a' b", 1, none, api.Token{Kind: api.TokWord, From: 1, To: 4, Open: true}, none},

		{"'E'a b", 0, awaits(4), api.Token{Kind: api.TokWord, To: 4}, pends(delim("Ea"))},
		{"'E'a b", 0, awaits(5), api.Token{Kind: api.TokWord, To: 4}, pends(tabbed("Ea"))},
		{"'E", 0, awaits(4, delim("a")), api.Token{Kind: api.TokWord, To: 2, Open: true}, pends(delim("a"), delim("E"))},
		{"a", 0, awaits(5, delim("E"), delim("F")), api.Token{Kind: api.TokWord, To: 1}, pends(delim("E"), delim("F"), tabbed("a"))},
		{"a", 0, pends(delim("E")), api.Token{Kind: api.TokWord, To: 1}, pends(delim("E"))},
		{" a", 0, awaits(4), api.Token{Kind: api.TokBlank, To: 1}, awaits(4)},
		{"\\\na", 0, awaits(5, delim("E")), api.Token{Kind: api.TokBlank, To: 2}, awaits(5, delim("E"))},
		{"#a", 0, awaits(4), api.Token{Kind: api.TokComment, To: 2}, none},
		{"#a\n", 0, awaits(5, delim("E")), api.Token{Kind: api.TokComment, To: 2}, pends(delim("E"))},
		{"1>", 0, awaits(4, delim("E")), api.Token{Kind: api.TokNumber, To: 1}, pends(delim("E"))},
		{";", 0, awaits(4), api.Token{Kind: api.TokOper, To: 1}, none},
		{"<<", 0, awaits(5), api.Token{Kind: api.TokOper, To: 2}, awaits(4)},
		{"<<-", 0, awaits(4, delim("E")), api.Token{Kind: api.TokOper, To: 3}, awaits(5, delim("E"))},
		{"\n", 0, awaits(4), api.Token{Kind: api.TokNewline, To: 1}, none},
		{"\n", 0, awaits(5, delim("E")), api.Token{Kind: api.TokNewline, To: 1}, comes(delim("E"))},
		{"\n\n", 0, pends(delim("E"), tabbed("F")), api.Token{Kind: api.TokNewline, To: 1}, comes(delim("E"), tabbed("F"))},

		{"a\nE\nb", 0, comes(delim("E")), api.Token{Kind: api.TokHere, To: 4}, none},
		{"a\nE\nb", 1, comes(delim("E")), api.Token{Kind: api.TokHere, From: 1, To: 4}, none},
		{"a\nE\nb", 2, comes(delim("E")), api.Token{Kind: api.TokHere, From: 2, To: 4}, none},
		{"a\nE\nb", 3, comes(delim("E")), api.Token{Kind: api.TokHere, From: 3, To: 5, Open: true}, comes(delim("E"))},
		{"a\nE\nb", 0, comes(delim("E"), tabbed("b")), api.Token{Kind: api.TokHere, To: 4}, comes(tabbed("b"))},
		{"a\nE\nb", 0, comes(delim("E"), tabbed("b"), delim("c")), api.Token{Kind: api.TokHere, To: 4}, comes(tabbed("b"), delim("c"))},
		{"\t\tE", 0, comes(tabbed("E")), api.Token{Kind: api.TokHere, To: 3}, none},
		{"\t\tE", 0, comes(delim("E")), api.Token{Kind: api.TokHere, To: 3, Open: true}, comes(delim("E"))},
		{"\t\tE", 2, comes(delim("E")), api.Token{Kind: api.TokHere, From: 2, To: 3}, none},
		{"aE\n", 1, comes(delim("E")), api.Token{Kind: api.TokHere, From: 1, To: 3}, none},
		{"# <<a", 0, comes(delim("E"), delim("E")), api.Token{Kind: api.TokHere, To: 5, Open: true}, comes(delim("E"), delim("E"))},

		{"", 0, none, api.Token{}, none}, // places outside
		{"", 0, comes(delim("")), api.Token{}, comes(delim(""))},
		{"", -1, awaits(4), api.Token{}, awaits(4)},
		{"ab", -1, awaits(4), api.Token{}, awaits(4)},
		{"ab", 2, comes(tabbed("E"), delim("ab")), api.Token{}, comes(tabbed("E"), delim("ab"))},
		{"ab", 3, pends(delim("E")), api.Token{}, pends(delim("E"))},
		{"ab", math.MaxInt, none, api.Token{}, none},
		{"ab", math.MinInt, awaits(5, delim("E")), api.Token{}, awaits(5, delim("E"))},
	} {
		if got, then := token.Step(c.s, c.at, c.x); got != c.want || !same(then, c.then) {
			t.Errorf("Step(%q, %d, %s) %v, %s, not %v, %s", c.s, c.at, spelled(c.x), got, spelled(then), c.want, spelled(c.then))
		}
	}
}

// P1: lexings to which no text leads: a call ends, and its token lies within the text.
func TestWild(t *testing.T) {
	wild := []api.Lexing{
		{Body: true}, {Body: true, Pend: []api.Delim{}}, {Body: true, Await: 4}, {Await: -1}, {Await: 6, Pend: pends(delim("a")).Pend}, {Await: math.MaxInt}, {Await: math.MinInt, Body: true, Pend: pends(tabbed("\t\n")).Pend},
		comes(delim("\n\n"), delim("\xff")), comes(tabbed("\t")),
	}
	for _, s := range append(all("<a\n\t ", 3), "a\nb") {
		for _, x := range wild {
			for at := range len(s) {
				if got, _ := token.Step(s, at, x); got.From != at || got.To <= at || got.To > len(s) {
					t.Errorf("Step(%q, %d, %s) %v", s, at, spelled(x), got)
				}
			}
			if got, then := token.Step(s, len(s), x); got != (api.Token{}) || !same(then, x) {
				t.Errorf("Step(%q, %d, %s) %v, %s", s, len(s), spelled(x), got, spelled(then))
			}
		}
	}
	if got, then := token.Step("a\nb\n", 0, api.Lexing{Body: true}); got != (api.Token{Kind: api.TokHere, To: 4, Open: true}) || !same(then, api.Lexing{Body: true}) {
		t.Errorf("%v, %s", got, spelled(then))
	}
}

// beyond are tokens whose places are outside a text of five bytes, or whose To is below From.
var beyond = []api.Token{
	{From: -1, To: 1}, {From: -1, To: -1}, {From: -2, To: -1}, {From: math.MinInt, To: 2}, {From: math.MinInt, To: math.MinInt},
	{From: 4, To: 6}, {From: 5, To: 6}, {From: 6, To: 6}, {From: 6, To: 7}, {From: 6, To: 5}, {From: 0, To: math.MaxInt}, {From: math.MaxInt, To: math.MaxInt}, {From: math.MinInt, To: math.MaxInt},
	{From: 2, To: 1}, {From: 5, To: 4}, {From: 5, To: 0}, {From: 0, To: -1}, {From: math.MaxInt, To: math.MinInt}, {From: 1, To: math.MinInt}, {From: math.MaxInt, To: 2},
}

// P9.2: the bytes of tokens of all kinds and places.
func TestText(t *testing.T) {
	const s = "a <\n\xff"
	for from := range len(s) + 1 {
		for to := from; to <= len(s); to++ {
			for kind := -1; kind < 10; kind++ {
				if got := token.Text(s, api.Token{Kind: kind, From: from, To: to, Open: kind > 3}); got != s[from:to] {
					t.Errorf("Text(%d to %d) %q", from, to, got)
				}
			}
		}
	}
	for _, b := range beyond {
		if got := token.Text(s, b); got != "" {
			t.Errorf("Text(%v) %q", b, got)
		}
	}
	if got := token.Text("", api.Token{}); got != "" {
		t.Errorf("%q", got)
	}
	if got := token.Text("", api.Token{To: 1}); got != "" {
		t.Errorf("%q", got)
	}
}

// P9.2: the leaves of rows that are a text's tokens, and of any others.
func TestLeaves(t *testing.T) {
	const s = "a <\n\xff"
	var l []api.Token
	var want []api.Leaf
	add := func(kind, from, to int) {
		l = append(l, api.Token{Kind: kind, From: from, To: to, Open: from == 1})
		if means(kind) {
			want = append(want, api.Leaf{Kind: kind, Text: s[from:to], From: from, To: to})
		}
	}
	for _, kind := range []int{-1, 0, 1, 2, 3, 4, 5, 6, 7, 8, math.MinInt, math.MaxInt} { // in no order, one upon the other, some of them empty
		for from := len(s); from >= 0; from-- {
			for to := from; to <= len(s); to++ {
				add(kind, from, to)
			}
			for _, b := range beyond {
				b.Kind = kind
				l = append(l, b)
			}
		}
	}
	if got := token.Leaves(s, l); !slices.Equal(got, want) || len(got) != 4*21 {
		t.Errorf("%d leaves: %v, not %v", len(got), got, want)
	}
	if got := token.Leaves(s, nil); len(got) != 0 {
		t.Errorf("%v", got)
	}
	if got := token.Leaves("", []api.Token{{Kind: api.TokWord, To: 1}, {Kind: api.TokWord}, {Kind: api.TokBlank}}); !slices.Equal(got, []api.Leaf{{Kind: api.TokWord}}) {
		t.Errorf("%v", got)
	}
	const line = " a 2>b #c\n<<E;\nE\n"
	l, _ = token.Lex(line)
	want = []api.Leaf{
		{Kind: api.TokWord, Text: "a", From: 1, To: 2}, {Kind: api.TokNumber, Text: "2", From: 3, To: 4}, {Kind: api.TokOper, Text: ">", From: 4, To: 5}, {Kind: api.TokWord, Text: "b", From: 5, To: 6}, {Kind: api.TokNewline, Text: "\n", From: 9, To: 10},
		{Kind: api.TokOper, Text: "<<", From: 10, To: 12}, {Kind: api.TokWord, Text: "E", From: 12, To: 13}, {Kind: api.TokOper, Text: ";", From: 13, To: 14}, {Kind: api.TokNewline, Text: "\n", From: 14, To: 15},
	}
	if got := token.Leaves(line, l); !slices.Equal(got, want) {
		t.Errorf("%v, not %v", got, want)
	}
}

// P9.2: the token at a place, of rows of all kinds.
func TestAt(t *testing.T) {
	span := func(from, to int) api.Token { return api.Token{Kind: api.TokWord, From: from, To: to} }
	tiling, _ := token.Lex("ab  c;\nd")
	apart := []api.Token{span(2, 4), span(4, 5), span(7, 9)}
	upon := []api.Token{span(5, 6), span(0, 9), span(3, 4), span(5, 6)}
	wrong := []api.Token{span(3, 3), span(5, 2), span(-4, -2), span(math.MinInt, -9), span(9, math.MaxInt), span(math.MaxInt, math.MinInt)}
	for _, c := range []struct {
		l        []api.Token
		at, want int
	}{
		{nil, 0, -1}, {nil, -1, -1}, {[]api.Token{}, 5, -1}, // no token
		{tiling, 0, 0}, {tiling, 1, 0}, {tiling, 2, 1}, {tiling, 3, 1}, {tiling, 4, 2}, {tiling, 5, 3}, {tiling, 6, 4}, {tiling, 7, 5}, {tiling, 8, -1}, {tiling, -1, -1}, {tiling, math.MaxInt, -1}, {tiling, math.MinInt, -1},
		{apart, 0, -1}, {apart, 1, -1}, {apart, 2, 0}, {apart, 3, 0}, {apart, 4, 1}, {apart, 5, -1}, {apart, 6, -1}, {apart, 7, 2}, {apart, 8, 2}, {apart, 9, -1}, // ahead of all, between, behind all
		{upon, 0, 1}, {upon, 3, 1}, {upon, 5, 0}, {upon, 6, 1}, {upon, 9, -1}, // the first one
		{wrong, 3, -1}, {wrong, 2, -1}, {wrong, 4, -1}, {wrong, 5, -1}, {wrong, -4, 2}, {wrong, -3, 2}, {wrong, -2, -1}, {wrong, -9, -1}, {wrong, -10, 3}, {wrong, math.MinInt, 3}, {wrong, 9, 4}, {wrong, math.MaxInt - 1, 4}, {wrong, math.MaxInt, -1},
	} {
		if got := token.At(c.l, c.at); got != c.want {
			t.Errorf("At(%v, %d) %d, not %d", c.l, c.at, got, c.want)
		}
	}
}

// P9.2: lexings that are the same, and ones that differ.
func TestSame(t *testing.T) {
	l := []api.Lexing{
		none, awaits(4), awaits(5), awaits(-4), awaits(math.MaxInt), {Body: true},
		pends(delim("E")), pends(tabbed("E")), pends(delim("F")), pends(delim("")), pends(delim("E\x00")), pends(delim("E"), delim("E")), pends(delim("E"), tabbed("E")), pends(delim("E"), delim("F")), pends(delim("F"), delim("E")), pends(delim("E"), delim("E"), delim("E")),
		awaits(4, delim("E")), awaits(5, delim("E")), comes(delim("E")), comes(tabbed("E")), comes(delim("E"), delim("F")), {Await: 4, Body: true, Pend: []api.Delim{{Word: "E"}}},
	}
	for i, a := range l {
		for j, b := range l {
			b.Pend = slices.Clone(b.Pend)
			if got := token.Same(a, b); got != (i == j) {
				t.Errorf("Same(%s, %s) %v", spelled(a), spelled(b), got)
			}
		}
	}
	if !token.Same(none, api.Lexing{Pend: []api.Delim{}}) || !token.Same(api.Lexing{Pend: []api.Delim{}}, none) { // a list without elements is nil
		t.Error("an empty Pend is another one")
	}
	long := pends(delim("E"), delim("F"), delim("G"))
	if cut := (api.Lexing{Pend: long.Pend[:1]}); !token.Same(cut, pends(delim("E"))) || token.Same(cut, long) {
		t.Error("what lies behind a list's length was read")
	}
}

// ended are the tokens of a text that end at a place or ahead of it.
func ended(s string, at int) []api.Token {
	l, _ := token.Lex(s)
	n := slices.IndexFunc(l, func(t api.Token) bool { return t.To > at })
	if n >= 0 {
		l = l[:n]
	}
	return l
}

// alike checks that all texts with one beginning have the same tokens up to two bytes ahead of its end; false: one has others.
func alike(t *testing.T, head string, tails []string) bool {
	t.Helper()
	want := ended(head, len(head)-2)
	for _, tail := range tails {
		if got := ended(head+tail, len(head)-2); !slices.Equal(got, want) {
			t.Errorf("up to %d: %q has %v, %q has %v", len(head)-2, head, want, head+tail, got)
			return false
		}
	}
	return true
}

// P9.4: texts with one beginning, whatever is behind it: short beginnings, and longer ones, of every length.
func TestBeginning(t *testing.T) {
	tails := append(all(" \n\\#<>-&(1a'", 2), "\nE\n", "E\nE\n", "\tE\n", "E <<F\nF\n", "\"`$({})\x00\xff", "))", "}", "'a\n")
	for b := range 256 {
		tails = append(tails, string([]byte{byte(b)}))
	}
	for _, head := range all(parting, 3) {
		if !alike(t, head, tails) {
			return
		}
	}
	for _, open := range []string{"<<E\n", "<<-E\n", "<<''\n", "<<E<<\tE\n"} {
		for _, head := range all("E\n\t", 4) {
			if !alike(t, open+head, tails) {
				return
			}
		}
	}
	var long []string
	for _, c := range lexed {
		s, _ := joined(c.pieces)
		long = append(long, s)
	}
	long = append(long, "if a 2>&1; then\n\tb 'c d' \"e $(f; (g) \\\n) h\" <<E <<-'F' # i\nj\nE\n\tk\n\tF\nfi | l && m$$ ${n:-o} $((p)) \\\n q;;\n")
	for _, s := range long {
		for to := range len(s) + 1 {
			if !alike(t, s[:to], append([]string{s[to:]}, tails...)) {
				return
			}
		}
	}
}

// P9.4: what ends only one byte ahead of the beginning's end hangs on what is behind that.
func TestTwo(t *testing.T) {
	for _, c := range []struct {
		head, tail string
		end        int
	}{
		{" \\", "\n", 1},
		{"\\\n\\", "\n", 2},
		{"<<", "-", 2},
		{"a", "b", 1},
		{"1", "<", 1},
		{"a$", "(", 2},
		{"#", "a", 1},
	} {
		if l := ended(c.head, c.end); len(l) == 0 || slices.Equal(l, ended(c.head+c.tail, c.end)) {
			t.Errorf("%q and %q: %v", c.head, c.head+c.tail, l)
		}
	}
}

// P1: long texts, many documents, and words that lie deep.
func TestLong(t *testing.T) {
	const n = 20000
	long := strings.Repeat("a", api.MaxText+10)
	takes := func(x api.Lexing, l ...piece) { // place by place it would take too long
		t.Helper()
		s, want := joined(l)
		if got, behind := token.Lex(s); !slices.Equal(got, want) || !same(behind, x) {
			t.Errorf("%d bytes: %d tokens, not %d", len(s), len(got), len(want))
		}
	}
	takes(none, word(long))
	takes(none, word("'"+long+"'"), newline)
	takes(none, torn("\""+long))
	takes(none, comment("#"+long), newline)
	takes(none, blank(strings.Repeat(" \\\n", n)), word("a"))
	takes(none, word(strings.Repeat("1", n)), blank(" "), number(strings.Repeat("2", n)), op("<"))
	takes(pends(delim(long)), op("<<"), word(long))
	takes(none, op("<<"), word("E"), newline, here(strings.Repeat("a\n", n)+"E\n"), word("b"))
	takes(comes(delim("E")), op("<<"), word("E"), newline, endless(strings.Repeat("a\n", n)+long))
	takes(none, word(strings.Repeat("$(", n/10)+strings.Repeat(")", n/10)), newline)
	takes(none, torn(strings.Repeat("\"${a`b\\`", n/10)))
	var lines, heres []piece
	for i := range n {
		lines = append(lines, op("<<-"), word("E"+strconv.Itoa(i)))
		heres = append(heres, here("a\n\tE"+strconv.Itoa(i)+"\n"))
	}
	lines = append(append(lines, newline), heres...)
	takes(none, append(lines, word("b"))...)
	var apart []piece
	for range n {
		apart = append(apart, newline, blank(" "), op(";"))
	}
	takes(none, apart...)
}

// R4: what is handed in is as it was, and what is answered is new.
func TestMemory(t *testing.T) {
	const s = "E F\nE\nF\n"
	memory := []api.Delim{delim("E"), tabbed("F"), delim("?"), delim("?")}
	for _, x := range []api.Lexing{awaits(4), pends(), comes(), {}} {
		x.Pend = memory[:2]
		for at := -1; at <= len(s); at++ {
			first, y := token.Step(s, at, x)
			kept := spelled(y)
			for i := range y.Pend[:cap(y.Pend)] {
				y.Pend[:cap(y.Pend)][i] = delim("!")
			}
			if !slices.Equal(memory, []api.Delim{delim("E"), tabbed("F"), delim("?"), delim("?")}) {
				t.Fatalf("Step(%d, %s) leads to what was handed in: %v", at, spelled(x), memory)
			}
			if again, z := token.Step(s, at, x); again != first || spelled(z) != kept {
				t.Fatalf("Step(%d, %s) %v, %s, then %v, %s", at, spelled(x), first, kept, again, spelled(z))
			}
		}
	}
	text := strings.Clone("ab <<cd;ef\ng\ncd\n<<-h <<i")
	l, x := token.Lex(text)
	want, kept := slices.Clone(l), spelled(x)
	l = append(make([]api.Token, 0, 99), l...)
	behind := l[len(l) : len(l)+1]
	behind[0] = api.Token{Kind: api.TokWord, To: 1}
	leaves := token.Leaves(text, l)
	if leaves[len(leaves)-1].Text != "i" || !slices.Equal(l, want) || behind[0] != (api.Token{Kind: api.TokWord, To: 1}) {
		t.Errorf("%v, %v", leaves, l)
	}
	for _, leaf := range leaves {
		if unsafe.StringData(leaf.Text) == unsafe.StringData(text[leaf.From:]) {
			t.Errorf("%q lies in the text", leaf.Text)
		}
	}
	if got := token.Text(text, l[0]); unsafe.StringData(got) == unsafe.StringData(text) {
		t.Error("the bytes lie in the text")
	}
	for i := range leaves[:cap(leaves)] {
		leaves[:cap(leaves)][i] = api.Leaf{Text: "?"}
	}
	l, x = token.Lex(text)
	for i := range l[:cap(l)] {
		l[:cap(l)][i] = api.Token{Kind: -1}
	}
	for i := range x.Pend[:cap(x.Pend)] {
		x.Pend[:cap(x.Pend)][i] = delim("?")
	}
	if got, y := token.Lex(text); !slices.Equal(got, want) || spelled(y) != kept {
		t.Errorf("then otherwise: %v, %s", got, spelled(y))
	}
}
