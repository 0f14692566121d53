// Package edit is layer 1, changes of a text: see shared/doc/01-edit.md.
package edit

import (
	"strings"

	"quillwort/api"
)

// Goes tells whether an edit goes with a text.
func Goes(s string, e api.Edit) bool {
	return fault(s, e) == api.OK
}

// Do is the text behind an edit.
func Do(s string, e api.Edit) (string, api.Errno) {
	if bad := fault(s, e); bad != api.OK {
		return "", bad
	}
	return s[:e.At] + e.Ins + s[e.At+len(e.Del):], api.OK
}

// fault tells why an edit doesn't go with a text; OK: it does.
func fault(s string, e api.Edit) api.Errno {
	if e.At < 0 || e.At > len(s) || !strings.HasPrefix(s[e.At:], e.Del) {
		return api.ErrRange
	}
	return room(s, len(e.Del), len(e.Ins))
}

// room tells whether a text may lose so many bytes and get so many others.
func room(s string, del, ins int) api.Errno {
	if len(s)-del+ins > api.MaxText {
		return api.ErrLarge
	}
	return api.OK
}

// Inverse is the edit that brings the text again.
func Inverse(e api.Edit) api.Edit {
	return api.Edit{At: e.At, Del: e.Ins, Ins: e.Del}
}

// Make is the edit of a part of a text.
func Make(s string, from, to int, ins string) (api.Edit, api.Errno) {
	if from < 0 || from > to || to > len(s) {
		return api.Edit{}, api.ErrRange
	}
	if bad := room(s, to-from, len(ins)); bad != api.OK {
		return api.Edit{}, bad
	}
	return api.Edit{At: from, Del: cut(s, from, to), Ins: ins}, api.OK
}

// cut copies, since edits are kept: a few bytes of a text must not hold all of it in memory.
func cut(s string, from, to int) string {
	return strings.Clone(s[from:to])
}

// Diff is an edit from one text to another one.
func Diff(a, b string) api.Edit {
	head, tail := alike(a, b)
	return api.Edit{At: head, Del: cut(a, head, len(a)-tail), Ins: cut(b, head, len(b)-tail)}
}

// alike counts the bytes that two texts have alike at their beginnings, and then, of what is left, at their ends.
func alike(a, b string) (head, tail int) {
	most := min(len(a), len(b))
count:
	for head+tail < most {
		switch {
		case a[head] == b[head]: // never so again behind the first difference: head stays there
			head++
		case a[len(a)-1-tail] == b[len(b)-1-tail]:
			tail++
		default:
			break count
		}
	}
	return head, tail
}

// Move is where a place is behind an edit.
func Move(e api.Edit, at int, stick bool) int {
	switch {
	case at < e.At:
		return at
	case uint(at)-uint(e.At) > uint(len(e.Del)): // unsigned, since two ints may be farther apart than an int can tell
		return at + (len(e.Ins) - len(e.Del))
	case stick:
		return e.At + len(e.Ins)
	}
	return e.At
}

// Join is one edit for two.
func Join(a, b api.Edit) (api.Edit, bool) {
	if outside(a.At) || outside(b.At) {
		return api.Edit{}, false
	}
	from := b.At - a.At // where b begins, and ends, from the beginning of what a brought on
	to := from + len(b.Del)
	if from > len(a.Ins) || to < 0 {
		return api.Edit{}, false
	}
	ahead := b.Del[:max(-from, 0)]
	behind := b.Del[min(len(a.Ins)-from, len(b.Del)):]
	left, right := a.Ins[:max(from, 0)], a.Ins[min(to, len(a.Ins)):]
	return api.Edit{At: min(a.At, b.At), Del: ahead + a.Del + behind, Ins: left + b.Ins + right}, true
}

// outside tells whether a place can be in no text.
func outside(at int) bool {
	return at < 0 || at > api.MaxText
}

// All is the text behind all edits, and how many they are; or the number of the first one that doesn't go.
func All(s string, l ...api.Edit) (string, int, api.Errno) {
	for i, e := range l {
		next, bad := Do(s, e)
		if bad != api.OK {
			return "", i, bad
		}
		s = next
	}
	return s, len(l), api.OK
}
