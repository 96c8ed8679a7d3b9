package layout

import (
	"slices"
	"testing"

	"spinet/api"
)

// The chapter's example: P14.1.
func TestExample(t *testing.T) {
	l := isGood(t, with(record(0, field("a", api.FmChar), field("b", api.FmBool), field("c", api.FmInt), field("d", api.FmChar))))
	mustSize(t, l, 7, 12)
	mustLie(t, l, 7, "a", 0, api.FmChar)
	mustLie(t, l, 7, "b", 1, api.FmBool)
	mustLie(t, l, 7, "c", 4, api.FmInt)
	mustLie(t, l, 7, "d", 8, api.FmChar)
	mustVars(t, l, []int{3, 2, 1, 3}, []int{0, 1, 4, 8}, 12)
}

// P14.1
func TestSizeOfEachForm(t *testing.T) {
	mustSizes(t, isGood(t, head()), 0, 0, 4, 1, 1, 4, 0, 0)
	mustSizes(t, isGood(t, zoo()), 0, zooSizes()...)
}

// P14.1: what is pointed to, handed over or of an open length doesn't count.
func TestSizeOfWhatHasOthersBehindIt(t *testing.T) {
	value := func(a int) api.TyParam { return api.TyParam{Type: a} }
	// 7 too great, 8 a record of it, 9 a record that has a pointer to itself
	l := with(array(api.MaxLen, 9), record(0, field("x", 7)), record(0, many("f", 64, 10)...), pointer(9), pointer(8), proc(0, value(7), value(14)), proc(11), open(7), open(14), open(8), record(0), pointer(17), proc(0, value(13)))
	isGood(t, l)
	mustSizes(t, l, 7, tooGreat, tooGreat, 256, 4, 4, 4, 4, 0, 0, 0, 0, 4, 4)
}

// P14.1
func TestSizeOfArrays(t *testing.T) {
	lens := []int{1, 2, 3, 4, 5, api.MaxLen}
	want := map[int][]int{
		api.FmInt:     {4, 8, 12, 16, 20, 16384},
		api.FmBool:    {4, 4, 4, 4, 8, 4096},
		api.FmChar:    {4, 4, 4, 4, 8, 4096},
		api.FmSet:     {4, 8, 12, 16, 20, 16384},
		api.FmArray:   {8, 16, 24, 32, 40, 32768},
		api.FmRecord:  {12, 24, 36, 48, 60, tooGreat},
		api.FmPointer: {4, 8, 12, 16, 20, 16384},
		api.FmProc:    {4, 8, 12, 16, 20, 16384},
	}
	for _, elem := range elements() {
		l := zoo()
		for _, n := range lens {
			l = append(l, array(n, elem))
		}
		mustSizes(t, isGood(t, l), zooEnd, want[elem]...)
	}
}

// P14.1: characters and truths are rounded up at the end of an array, at each
// length, and not one by one.
func TestSizeOfArraysIsRoundedUp(t *testing.T) {
	for _, elem := range []int{api.FmBool, api.FmChar} {
		for n := 1; n <= api.MaxLen; n += 1 + n/40 {
			l := isGood(t, with(array(n, elem), array(3, 7), record(0, field("a", 7), field("b", elem))))
			want := n
			for want%4 != 0 {
				want++
			}
			mustSizes(t, l, 7, want, 3*want, want+4)
		}
	}
}

// P14.1
func TestSizeOfArraysInEachOther(t *testing.T) {
	l := with(array(5, 3), array(3, 7), array(2, 8), array(1, 9), record(0, field("a", 3)), array(3, 11), array(2, 12), record(0, field("a", 13), field("b", 8)), array(2, 14), record(0), array(7, 16), array(api.MaxLen, 17))
	isGood(t, l)
	mustSizes(t, l, 7, 8, 24, 48, 48, 4, 12, 24, 48, 96, 0, 0, 0)
	// As many in each other as a table holds.
	l = with(array(3, 3))
	for len(l) < api.MaxTypes {
		l = append(l, array(1, len(l)-1))
	}
	mustSize(t, isGood(t, l), api.MaxTypes-1, 4)
}

// P14.1
func TestSizeOfRecords(t *testing.T) {
	for _, x := range []struct {
		types []int
		size  int
	}{
		{nil, 0},
		{[]int{1}, 4}, {[]int{2}, 4}, {[]int{3}, 4}, {[]int{4}, 4}, {[]int{7}, 8}, {[]int{9}, 12}, {[]int{10}, 4}, {[]int{11}, 4},
		{[]int{3, 3}, 4}, {[]int{3, 3, 3}, 4}, {[]int{3, 3, 3, 3}, 4}, {[]int{3, 3, 3, 3, 3}, 8},
		{[]int{2, 2}, 4}, {[]int{2, 3, 2}, 4}, {[]int{2, 3, 3, 2}, 4}, {[]int{3, 2, 2, 2, 3}, 8},
		{[]int{3, 1}, 8}, {[]int{1, 3}, 8}, {[]int{3, 1, 3}, 12}, {[]int{3, 3, 1, 3, 3}, 12}, {[]int{1, 3, 1}, 12}, {[]int{1, 3, 2, 3, 2, 1}, 12}, {[]int{1, 3, 2, 3, 2, 3, 1}, 16},
		{[]int{3, 7, 2, 9, 3, 10, 2, 11, 3, 4, 2}, 4 + 8 + 4 + 12 + 4 + 4 + 4 + 4 + 4 + 4 + 4},
		{[]int{7, 9, 3, 3}, 24}, {[]int{2, 7}, 12}, {[]int{2, 9}, 16},
	} {
		l := isGood(t, zoo(record(0, fields('a', x.types...)...)))
		mustSize(t, l, zooEnd, x.size)
	}
	for n := range api.MaxList + 1 {
		l := with(record(0, many("c", n, api.FmChar)...), record(0, many("n", n, api.FmInt)...))
		mustSizes(t, isGood(t, l), 7, []int{0, 3, 2, 1}[n%4]+n, 4*n)
	}
}

// P14.1: an extension goes on from its Base's size, which is rounded up.
func TestSizeOfExtensions(t *testing.T) {
	for _, last := range []int{api.FmBool, api.FmChar} {
		l := with(record(0, fields('a', last)...), record(7, fields('b', last)...), record(8, fields('c', 1, last)...), record(9, fields('e', last, last, last, last, last)...), record(10))
		mustSizes(t, isGood(t, l), 7, 4, 8, 16, 24, 24)
	}
	l := with(record(0), record(7), record(8, fields('a', 3)...), record(9), record(10, fields('b', 3)...))
	mustSizes(t, isGood(t, l), 7, 0, 0, 4, 4, 8)
	l = bases(api.MaxExt+1, 3, 1, 2)
	mustSizes(t, isGood(t, l), 7, 12, 24, 36, 48, 60)
	// A base may stand behind its extension.
	l = with(record(8, fields('a', 3)...), record(9, fields('b', 1, 3)...), record(0, fields('d', 2)...))
	mustSizes(t, isGood(t, l), 7, 16, 12, 4)
}

// P14.1: a record of fields of one record, and of the record that it extends.
func TestSizeOfRecordsInEachOther(t *testing.T) {
	l := with(record(0, fields('a', 3)...), record(7, fields('b', 7, 3, 7)...), record(8, fields('e', 8, 8)...), array(3, 9), record(9, fields('g', 10, 2)...))
	mustSizes(t, isGood(t, l), 7, 4, 16, 48, 144, 196)
}

// P14.1: just MaxBytes, a step more, and far more.
func TestSizeNearMaxBytes(t *testing.T) {
	// 7 MaxBytes / 2, 8 MaxBytes, 9 a step more, 10 far more, 11 a page of characters
	l := with(array(api.MaxLen, 1), array(2, 7), record(0, fields('a', 8, 3)...), array(api.MaxLen, 7), array(api.MaxLen, 3))
	more := []struct {
		x    api.Ty
		size int
	}{
		{array(8, 11), api.MaxBytes}, {array(9, 11), tooGreat}, {array(1, 8), api.MaxBytes}, {array(2, 8), tooGreat}, {array(3, 7), tooGreat},
		{record(0, fields('a', 8)...), api.MaxBytes}, {record(0, fields('a', 7, 7)...), api.MaxBytes}, {record(0, fields('a', 7, 7, 2)...), tooGreat}, {record(0, fields('a', 2, 7, 7)...), tooGreat}, {record(0, fields('a', 3, 8)...), tooGreat}, {record(0, fields('a', 8, 1)...), tooGreat},
		{record(0, fields('a', 8, 8)...), tooGreat}, {record(0, fields('a', 11, 11, 11, 11, 11, 11, 11, 11)...), api.MaxBytes}, {record(0, fields('a', 11, 11, 11, 11, 11, 11, 11, 11, 11)...), tooGreat},
		{array(1, 9), tooGreat}, {array(1, 10), tooGreat}, {array(api.MaxLen, 10), tooGreat}, {array(api.MaxLen, 9), tooGreat},
		{record(0, fields('a', 9)...), tooGreat}, {record(0, fields('a', 10)...), tooGreat}, {record(0, many("f", api.MaxList, 10)...), tooGreat}, {record(9), tooGreat}, {record(9, fields('x', 1)...), tooGreat}, {record(9, fields('x', 10)...), tooGreat},
	}
	for _, m := range more {
		l = append(l, m.x)
	}
	isGood(t, l)
	mustSizes(t, l, 7, 16384, 32768, 32769, 32769, 4096)
	for i, m := range more {
		mustSize(t, l, 12+i, m.size)
	}
}

// P14.1: every size from some words below MaxBytes on to some above.
func TestSizeStepByStep(t *testing.T) {
	for n := api.MaxLen - 40; n <= api.MaxLen; n++ {
		for extra := range api.MaxList - 1 {
			chars := many("c", extra, api.FmChar)
			l := isGood(t, with(array(n, 1), record(0, append(chars, field("x", 7), field("y", 7))...)))
			mustSize(t, l, 8, min(tooGreat, 8*n+(extra+3)/4*4))
		}
	}
}

// P14.1: what is too great stays so, whatever stands around it, and does not
// come back by way of an int that is too short.
func TestSizeFarAbove(t *testing.T) {
	l := with(array(api.MaxLen, 1))
	for len(l) < api.MaxTypes {
		l = append(l, array(api.MaxLen, len(l)-1))
	}
	isGood(t, l)
	for a := 8; a < len(l); a++ {
		mustSize(t, l, a, tooGreat)
	}
	// Each twice, and 64 times, in the next one: without what is known already
	// this would not end.
	for _, n := range []int{1, 2, 63, 64} {
		l = with(array(4, 3))
		for len(l) < api.MaxTypes {
			l = append(l, record(0, many("f", n, len(l)-1)...))
		}
		isGood(t, l)
		size := 4
		for a := 7; a < len(l); a++ {
			mustSize(t, l, a, size)
			size = min(size*n, tooGreat)
		}
		mustNotLieUnless(t, l, api.MaxTypes-1, "f0", n == 1)
	}
	// Bases of that sort.
	l = slices.Concat(with(array(api.MaxLen, 8), array(api.MaxLen, 1)), tys{record(0, fields('a', 7)...), record(9, fields('b', 7)...), record(10, fields('c', 3)...), record(11), record(12)})
	mustSizes(t, isGood(t, l), 9, tooGreat, tooGreat, tooGreat, tooGreat, tooGreat)
}

func mustNotLieUnless(t *testing.T, l tys, a int, name string, lies bool) {
	t.Helper()
	if !lies {
		mustNotLie(t, l, a, name)
		return
	}
	mustLie(t, l, a, name, 0, a-1)
}

// P14.1: nothing is too great of types without bytes.
func TestSizeOfNothing(t *testing.T) {
	l := with(record(0))
	for len(l) < 100 {
		l = append(l, array(api.MaxLen, len(l)-1))
	}
	l = append(l, record(0, many("f", 64, 99)...))
	isGood(t, l)
	mustSize(t, l, 99, 0)
	mustSize(t, l, 100, 0)
	mustLie(t, l, 100, "f63", 0, 99)
}
