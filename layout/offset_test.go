package layout

import (
	"testing"

	"spinet/api"
)

// P14.1: one of each form, and characters and truths anywhere among them.
func TestOffsetOfEveryField(t *testing.T) {
	for _, x := range []struct{ types, at []int }{
		{[]int{1}, []int{0}}, {[]int{2}, []int{0}}, {[]int{3}, []int{0}}, {[]int{7}, []int{0}}, {[]int{9}, []int{0}},
		{[]int{1, 4, 7, 9, 10, 11, 1}, []int{0, 4, 8, 16, 28, 32, 36}},
		{[]int{3, 1}, []int{0, 4}}, {[]int{2, 4}, []int{0, 4}}, {[]int{3, 7}, []int{0, 4}}, {[]int{2, 9}, []int{0, 4}}, {[]int{3, 10}, []int{0, 4}}, {[]int{2, 11}, []int{0, 4}},
		{[]int{1, 3}, []int{0, 4}}, {[]int{1, 3, 1}, []int{0, 4, 8}}, {[]int{1, 3, 2, 1}, []int{0, 4, 5, 8}},
		{[]int{3, 3, 3, 3, 3, 1, 2, 2, 3}, []int{0, 1, 2, 3, 4, 8, 12, 13, 14}},
		{[]int{2, 3, 2, 3, 1}, []int{0, 1, 2, 3, 4}}, {[]int{2, 2, 2, 1}, []int{0, 1, 2, 4}}, {[]int{2, 2, 1, 3, 3}, []int{0, 1, 4, 8, 9}},
		{[]int{7, 3, 9, 2, 7}, []int{0, 8, 12, 24, 28}},
	} {
		l := isGood(t, zoo(record(0, fields('a', x.types...)...)))
		for i, a := range x.types {
			mustLie(t, l, zooEnd, string(rune('a'+i)), x.at[i], a)
		}
		mustNotLie(t, l, zooEnd, string(rune('a'+len(x.types))))
	}
}

// P14.1: a field without bytes lies at a multiple of 4, too.
func TestOffsetOfWhatHasNoBytes(t *testing.T) {
	l := isGood(t, with(record(0), array(3, 7), record(0, fields('a', 3, 7, 3, 8, 7, 1, 2, 8)...)))
	for i, at := range []int{0, 4, 4, 8, 8, 8, 12, 16} {
		mustLie(t, l, 9, string(rune('a'+i)), at, l[9].Fields[i].Type)
	}
	mustSize(t, l, 9, 16)
}

// P14.1: of the record itself, of its base, of its base's base, up to MaxExt.
func TestOffsetInBases(t *testing.T) {
	l := isGood(t, with(record(0, fields('a', 3, 3)...), record(7, fields('c', 2, 1)...), record(8, fields('e', 3)...)))
	for _, x := range []struct {
		name     string
		at, typ  int
		from, to int
	}{{"a", 0, 3, 7, 9}, {"b", 1, 3, 7, 9}, {"c", 4, 2, 8, 9}, {"d", 8, 1, 8, 9}, {"e", 12, 3, 9, 9}} {
		for a := 7; a <= 9; a++ {
			if a >= x.from {
				mustLie(t, l, a, x.name, x.at, x.typ)
			} else {
				mustNotLie(t, l, a, x.name)
			}
		}
	}
	l = isGood(t, bases(api.MaxExt+1, 2, 1, 3))
	last := 7 + api.MaxExt
	for _, x := range []struct {
		name    string
		at, typ int
	}{{"f0x0", 0, 2}, {"f0x1", 4, 1}, {"f0x2", 8, 3}, {"f1x0", 12, 2}, {"f1x2", 20, 3}, {"f4x0", 48, 2}, {"f4x1", 52, 1}, {"f4x2", 56, 3}} {
		mustLie(t, l, last, x.name, x.at, x.typ)
	}
	mustNotLie(t, l, last, "f5x0")
	mustNotLie(t, l, last-1, "f4x0")
	// Bases without fields, at either end.
	l = isGood(t, with(record(0), record(7, fields('a', 3)...), record(8), record(9, fields('b', 3)...), record(10)))
	mustLie(t, l, 11, "a", 0, 3)
	mustLie(t, l, 11, "b", 4, 3)
	mustNotLie(t, l, 7, "a")
	mustNotLie(t, l, 9, "b")
}

// P14.1: names are told apart byte by byte, also such as no field can have.
func TestOffsetOfOtherNames(t *testing.T) {
	l := isGood(t, zoo(record(0, field("ab", 1), field("abc", 1), field("AB", 1), field("END", 1), field("b2", 1))))
	for i, name := range []string{"ab", "abc", "AB", "END", "b2"} {
		mustLie(t, l, zooEnd, name, 4*i, 1)
	}
	for _, name := range []string{"", "a", "b", "Ab", "aB", "abcd", "ab ", " ab", "ab\x00", "\x00", "end", "b", "2", "0", "A", "A.ab", "ab,abc", "\xff", "äb"} {
		mustNotLie(t, l, zooEnd, name)
	}
}

// P14.1: whether a field is exported is nothing to its place.
func TestOffsetOfExported(t *testing.T) {
	for mask := range 8 {
		x := record(0, fields('a', 3, 1, 3)...)
		for i := range x.Fields {
			x.Fields[i].Export = mask>>i&1 == 1
		}
		l := isGood(t, with(x))
		mustLie(t, l, 7, "a", 0, 3)
		mustLie(t, l, 7, "b", 4, 1)
		mustLie(t, l, 7, "c", 8, 3)
	}
}

// P14.1: of a type that is no record there is none, a pointer to one and an array
// of one included.
func TestOffsetOfNoRecord(t *testing.T) {
	l := isGood(t, zoo(array(3, api.FmRecord), open(api.FmRecord), proc(0, api.TyParam{Type: api.FmRecord})))
	mustLie(t, l, api.FmRecord, "p", 0, 3)
	for a := range l {
		for _, name := range []string{"p", "q", "r", ""} {
			if a != api.FmRecord || name == "" {
				mustNotLie(t, l, a, name)
			}
		}
	}
}

// P14.1: of a record that is too great there is none, though it lies ahead of
// what is too much, or in a base that is not too great itself.
func TestOffsetInWhatIsTooGreat(t *testing.T) {
	// 7 half of MaxBytes, 8 one word, 9 just MaxBytes, 10 a step more, 11 without fields of its own
	l := isGood(t, with(array(api.MaxLen, 1), record(0, fields('a', 1)...), record(0, fields('b', 7, 7)...), record(9, fields('d', 3)...), record(10), record(8, fields('b', 7, 7)...), record(0, fields('a', 3, 10)...), record(0)))
	mustLie(t, l, 9, "b", 0, 7)
	mustLie(t, l, 9, "c", 16384, 7)
	mustLie(t, l, 8, "a", 0, 1)
	for a := 10; a <= 14; a++ {
		for _, name := range []string{"a", "b", "c", "d", ""} {
			mustNotLie(t, l, a, name)
		}
	}
	// The last byte, and what has none behind it.
	l = isGood(t, with(array(api.MaxLen, 1), array(4095, 1), record(0), record(0, fields('a', 7, 8, 3, 3, 3, 3)...), record(10, fields('g', 9)...)))
	mustLie(t, l, 10, "f", api.MaxBytes-1, 3)
	mustLie(t, l, 11, "g", api.MaxBytes, 9)
	mustSize(t, l, 11, api.MaxBytes)
}
