package consts

import (
	"slices"
	"testing"

	"spinet/api"
)

// roomy is the list with spare room behind it that is filled, too.
func roomy[T any](l []T, spare T) []T {
	out := make([]T, len(l), len(l)+3)
	copy(out, l)
	for i := len(l); i < cap(out); i++ {
		out[:cap(out)][i] = spare
	}
	return out
}

func TestArgumentsStayAsTheyAre(t *testing.T) {
	for _, name := range signs() {
		for _, l := range []vals{nil, list(num(-3)), list(text("a")), list(word(full)), list(num(least)), list(num(3), num(5)), list(none), list(num(1), none), list(num(1), num(2), text(tooLong)), badValues()} {
			given, before := roomy(l, num(7)), roomy(l, num(7))
			first := answerOf(Call(name, given))
			if !slices.Equal(given[:cap(given)], before[:cap(before)]) {
				t.Errorf("Call(%.20q): %s: changed", name, say(before...))
			}
			// What stands in the spare room is not looked at.
			if second := answerOf(Call(name, l)); second != first {
				t.Errorf("Call(%.20q): %s: %v and %v", name, say(l...), first, second)
			}
		}
	}
	for _, l := range []pairs{nil, {{1, 2}}, {{2, 1}}, {{0, 31}, {3, 4}}, {{1, 2}, {-1, 0}}, {{32, 32}}} {
		given, before := roomy(l, [2]int{9, 9}), roomy(l, [2]int{9, 9})
		first := answerOf(Set(given))
		if !slices.Equal(given[:cap(given)], before[:cap(before)]) {
			t.Errorf("Set(%v): changed", before)
		}
		if second := answerOf(Set(l)); second != first {
			t.Errorf("Set(%v): %v and %v", l, first, second)
		}
	}
}

// An answer could share memory by its text alone, and none has one. It is Good
// beside OK, and zero beside an error.
func TestAnswersStandAlone(t *testing.T) {
	look := func(got answer) {
		t.Helper()
		if got.v.Text != "" || got.err == api.OK && !Good(got.v) || got.err != api.OK && got.v != none {
			t.Errorf("%v", got)
		}
	}
	all := append(goodValues(), badValues()...)
	for _, op := range append(known(), unknown()[:3]...) {
		for _, a := range all {
			look(answerOf(One(op, a)))
			look(answerOf(Call(op, list(a))))
			for _, b := range all {
				look(answerOf(Two(op, a, b)))
				look(answerOf(Call(op, list(a, b))))
			}
		}
	}
	for from := -2; from < 34; from++ {
		for to := -2; to < 34; to++ {
			look(answerOf(Set(pairs{{1, 3}, {from, to}})))
		}
	}
}

// A list that is changed behind the call changes no answer, and a call hangs on
// no earlier one.
func TestListsAreNotKept(t *testing.T) {
	l, p := list(num(1), num(3)), pairs{{1, 2}, {4, 4}}
	moved, made := answerOf(Call("LSL", l)), answerOf(Set(p))
	clear(l)
	clear(p)
	if moved != is(num(8)) || made != is(elems(1, 2, 4)) {
		t.Errorf("%v, %v", moved, made)
	}
	mustCall(t, "LSL", list(num(1), num(3)), moved)
	mustSet(t, pairs{{1, 2}, {4, 4}}, made)
	mustSet(t, p, is(elems(0)))
}
