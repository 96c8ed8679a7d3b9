package types

import (
	"testing"

	"spinet/api"
)

// grid is a table's answers, a line a type from, a letter a type to.
func grid(n int, one func(from, to int) bool) []string {
	var l []string
	for from := range n {
		line := make([]byte, n)
		for to := range line {
			line[to] = '.'
			if one(from, to) {
				line[to] = 'x'
			}
		}
		l = append(l, string(line))
	}
	return l
}

func mustGrid(t *testing.T, promise string, got, want []string) {
	t.Helper()
	for from := range want {
		if got[from] != want[from] {
			t.Errorf("%s: from %d: %s, want %s", promise, from, got[from], want[from])
		}
	}
	if len(got) != len(want) {
		t.Errorf("%s: %d lines, want %d", promise, len(got), len(want))
	}
}

// forms has types of every form, and such as are nearly alike:
//
//	 7 ARRAY 2 OF CHAR, 8 open of INTEGER, 9 a record, 10 pointer to it, 11 PROCEDURE
//	12 a record that extends 9, 13 pointer to it, 14 ARRAY 2 OF INTEGER
//	15 open of CHAR, 16 open of 15, 17 ARRAY 3 OF 7, 18 open of 7
//	19 PROCEDURE (): INTEGER, 20 ARRAY 9 OF CHAR
func forms() tys {
	return zoo(record(api.FmRecord), pointer(12), array(2, api.FmInt), open(api.FmChar), open(15), array(3, 7), open(7), proc(1), array(9, api.FmChar))
}

// P13.4
func TestAssignOfEveryForm(t *testing.T) {
	l := isGood(t, forms())
	mustGrid(t, "P13.4", grid(len(l), func(from, to int) bool { return Assign(l, from, to) }), []string{
		".....................",
		".x...................",
		"..x..................",
		"...x.................",
		"....x................",
		"..........xx.x.....x.",
		".......x............x",
		".......x.............",
		"..............x......",
		".........x...........",
		"..........x..........",
		"...........x.........",
		".........x..x........",
		"..........x..x.......",
		"..............x......",
		".......x............x",
		".....................",
		".................x...",
		".................x...",
		"...................x.",
		"....................x",
	})
}

// P13.5
func TestFitsOfEveryForm(t *testing.T) {
	l := isGood(t, forms())
	mustGrid(t, "P13.5 (value)", grid(len(l), func(from, to int) bool { return Fits(l, from, value(to)) }), []string{
		".....................",
		".x...................",
		"..x..................",
		"...x.................",
		"....x................",
		"..........xx.x.....x.",
		"...............x.....",
		".......x.......x.....",
		"........x............",
		".........x...........",
		"..........x..........",
		"...........x.........",
		".........x..x........",
		"..........x..x.......",
		"........x.....x......",
		"...............x.....",
		"................x....",
		"................xxx..",
		"................x.x..",
		"...................x.",
		"...............x....x",
	})
	mustGrid(t, "P13.5 (variable)", grid(len(l), func(from, to int) bool { return Fits(l, from, variable(to)) }), []string{
		".....................",
		".x...................",
		"..x..................",
		"...x.................",
		"....x................",
		".....................",
		".....................",
		".......x.......x.....",
		"........x............",
		".........x...........",
		"..........x..........",
		"...........x.........",
		".........x..x........",
		".............x.......",
		"........x.....x......",
		"...............x.....",
		"................x....",
		"................xxx..",
		"................x.x..",
		"...................x.",
		"...............x....x",
	})
}

// P13.4
func TestAssignOfTexts(t *testing.T) {
	l := isGood(t, with(array(1, api.FmChar), array(api.MaxLen, api.FmChar), named(array(3, api.FmChar), "A", "T"), array(3, api.FmInt), array(3, api.FmBool), array(3, api.FmSet), array(3, 7), open(api.FmChar), record(0, field("a", 7)), pointer(15), proc(0, value(14))))
	for to := range l {
		mustAssign(t, l, api.FmText, to, to == 7 || to == 8 || to == 9)
		mustAssign(t, l, to, api.FmText, false)
	}
}

// P13.4
func TestAssignOfNil(t *testing.T) {
	l := isGood(t, with(record(0), pointer(7), named(pointer(7), "A", "P"), proc(0), named(proc(1, value(2)), "A", "Q"), array(2, 8), open(8)))
	for to := range l {
		mustAssign(t, l, api.FmNil, to, to >= 8 && to <= 11)
		mustAssign(t, l, to, api.FmNil, false)
		mustFit(t, l, api.FmNil, value(to), to >= 8 && to <= 11)
		mustFit(t, l, api.FmNil, variable(to), false)
	}
}

// P13.4, P13.5: an open array of the same element is assigned, whatever the
// length, and not handed over.
func TestAssignOfOpenArrays(t *testing.T) {
	// 7 and 8 the same, 9 and 10 named the same, 11 another one
	l := with(array(3, 1), array(3, 1), named(array(3, 1), "A", "T"), named(array(4, 2), "A", "T"), array(4, 1))
	for a := 7; a <= 11; a++ {
		l = append(l, open(a))
	}
	for a := 7; a <= 11; a++ {
		l = append(l, array(5, a))
	}
	isGood(t, l)
	alike := [][2]int{{7, 8}, {8, 7}, {9, 10}, {10, 9}}
	for i := range 5 {
		for k := range 5 {
			want := i == k
			for _, p := range alike {
				want = want || p == [2]int{7 + i, 7 + k}
			}
			from, to := 12+i, 17+k
			mustAssign(t, l, from, to, want)
			mustFit(t, l, from, value(to), false)
			mustFit(t, l, from, variable(to), false)
			mustAssign(t, l, to, from, false)
			mustFit(t, l, to, value(from), want)
			mustFit(t, l, to, variable(from), want)
			mustFit(t, l, from, value(12+k), want)
			mustFit(t, l, from, variable(12+k), want)
		}
	}
}

// P13.4, P13.5: of pointers the extended ones are assigned and handed over as
// values; a variable wants the same type.
func TestAssignOfExtensions(t *testing.T) {
	l := with(chain(api.MaxExt + 1)...)
	for a := 7; a <= 11; a++ {
		l = append(l, pointer(a))
	}
	l = append(l, named(pointer(7), "A", "P"), named(pointer(7), "A", "Q"))
	isGood(t, l)
	for i := range 5 {
		for k := range 5 {
			for _, p := range []api.TyParam{value(7 + k), variable(7 + k)} {
				mustFit(t, l, 7+i, p, i >= k)
				mustFit(t, l, 12+i, p, false)
			}
			mustAssign(t, l, 7+i, 7+k, i >= k)
			mustAssign(t, l, 12+i, 12+k, i >= k)
			mustFit(t, l, 12+i, value(12+k), i >= k)
			mustFit(t, l, 12+i, variable(12+k), i == k)
		}
		mustAssign(t, l, 12+i, 17, true)
		mustFit(t, l, 12+i, value(17), true)
		mustFit(t, l, 12+i, variable(17), false)
	}
	mustAssign(t, l, 17, 18, true)
	mustFit(t, l, 17, value(18), true)
	mustFit(t, l, 17, variable(18), false)
}

// P13.4, P13.5: types of one name are the same, whatever they are.
func TestAssignByName(t *testing.T) {
	array1, array2, open1, open2, pointer1 := named(array(2, 1), "A", "T"), named(array(3, 4), "A", "T"), named(open(2), "A", "T"), named(open(3), "A", "T"), named(pointer(8), "A", "T")
	l := isGood(t, with(pointer1, record(0), array1, array2, open1, open2))
	for _, from := range []int{7, 9, 10, 11, 12} {
		for _, to := range []int{7, 9, 10, 11, 12} {
			mustSame(t, l, from, to, true)
			mustAssign(t, l, from, to, to < 11)
			mustFit(t, l, from, variable(to), true)
			// To an array an open one is not handed over; to an open one it is
			// by the elements alone.
			isOpen := from >= 11
			switch {
			case to >= 11:
				mustFit(t, l, from, value(to), from == to)
			case to == 7:
				mustFit(t, l, from, value(to), true)
			default:
				mustFit(t, l, from, value(to), !isOpen)
			}
		}
	}
}

// P13.5: open arrays of open arrays.
func TestFitsOpenInOpen(t *testing.T) {
	// 7 ARRAY 2 OF CHAR, 8 open of CHAR, 9 ARRAY 3 OF 7, 10 open of 7, 11 open of
	// 8, 12 ARRAY 4 OF 9, 13 open of 9, 14 open of 10, 15 open of 11, 16 open of INTEGER
	l := isGood(t, with(array(2, 3), open(3), array(3, 7), open(7), open(8), array(4, 9), open(9), open(10), open(11), open(1)))
	fits := map[int][]int{
		3: {3}, 6: {8}, 7: {7, 8}, 8: {8}, 9: {9, 10, 11}, 10: {10, 11}, 11: {11}, 12: {12, 13, 14, 15}, 13: {13, 14, 15}, 14: {14, 15}, 15: {15}, 16: {16},
	}
	for from, tos := range fits {
		for to := range l {
			want := 0
			for _, x := range tos {
				if x == to {
					want = 1
				}
			}
			mustFit(t, l, from, value(to), want == 1)
			mustFit(t, l, from, variable(to), want == 1 && from != api.FmText)
		}
	}
	// The longest way: an array of arrays to open of open.
	l = with(array(1, 1), open(1))
	for len(l)+2 <= api.MaxTypes {
		l = append(l, array(1, len(l)-2), open(len(l)-1))
	}
	isGood(t, l)
	last := len(l) - 1
	mustFit(t, l, last-1, value(last), true)
	mustFit(t, l, last-1, variable(last), true)
	mustFit(t, l, last, variable(last-1), false)
	mustFit(t, l, last-1, value(last-2), false)
	mustFit(t, l, last-3, value(last), false)
	l[8].Elem = 2
	mustFit(t, l, last-1, value(last), false)
}

// P13.5: a text is handed over by value alone, and to characters alone.
func TestFitsOfTexts(t *testing.T) {
	l := with(array(5, 3), open(3), named(open(3), "A", "T"), open(1), open(2), open(4), open(7), open(8), proc(0), array(5, 1))
	isGood(t, l)
	for to := range l {
		mustFit(t, l, api.FmText, value(to), to == 8 || to == 9)
		mustFit(t, l, api.FmText, variable(to), false)
		mustFit(t, l, api.FmChar, value(to), to == api.FmChar)
	}
}

// P13.1: what is no place, and what is no table.
func TestWrongArguments(t *testing.T) {
	l := isGood(t, forms())
	outs := append(outsides(), len(l), len(l)+1)
	for _, out := range outs {
		for _, in := range append([]int{0, 1, 7, 8, 9, 10, 11, len(l) - 1}, outs...) {
			mustAnswerNothing(t, l, out, in)
			mustAnswerNothing(t, l, in, out)
		}
		mustLevel(t, l, out, 0)
	}
	// The last place is one as well as the first.
	mustSame(t, l, len(l)-1, len(l)-1, true)
	mustSame(t, l, 0, 0, true)
	for _, bad := range badTables() {
		mustGood(t, bad, false)
		for _, a := range []int{-1, 0, 1, 6, 7, 8, 9, 10, len(bad) - 1, len(bad)} {
			for _, b := range []int{-1, 0, 1, 6, 7, 8, 9, 10, len(bad) - 1, len(bad)} {
				mustAnswerNothing(t, bad, a, b)
			}
			mustLevel(t, bad, a, 0)
		}
	}
}

func mustAnswerNothing(t *testing.T, l tys, a, b int) {
	t.Helper()
	mustSame(t, l, a, b, false)
	mustExtend(t, l, a, b, false)
	mustAssign(t, l, a, b, false)
	mustFit(t, l, a, value(b), false)
	mustFit(t, l, a, variable(b), false)
}

// badTables have pairs that were the same, extended, assigned and handed over,
// if they were Good.
func badTables() []tys {
	all := []tys{nil, {}, head()[:6], head()[1:], make(tys, 7), make(tys, 300)}
	for _, wrong := range []api.Ty{
		{}, {Form: api.FmInt}, {Form: 12}, {Form: -1}, array(0, 1), array(1, 0), array(1, 99), array(1, -1), open(6), record(1), record(99), record(0, field("", 1)), numbered(record(0), api.MaxDesc), pointer(1), pointer(-5), proc(6), proc(0, value(0)), named(array(1, 1), "A", ""),
	} {
		all = append(all, with(record(0), record(7), pointer(7), pointer(8), array(2, 3), wrong), with(record(8), record(0), pointer(7), wrong, array(2, 3)))
	}
	// Whoever goes along these without a look does not come to an end.
	return append(all, with(record(7)), with(record(8), record(7), pointer(8)), with(array(1, 7)), with(open(8), open(7)), with(record(0, field("a", 7))), with(chain(api.MaxExt+2)...))
}
