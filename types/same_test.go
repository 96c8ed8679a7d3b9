package types

import (
	"slices"
	"testing"

	"spinet/api"
)

// P13.2: the example of the chapter.
func TestExample(t *testing.T) {
	l := isGood(t, with(array(4, api.FmInt), array(4, api.FmInt), record(0), record(0)))
	mustSame(t, l, 7, 8, true)
	mustSame(t, l, 9, 10, false)
}

// P13.2: of one of each form no two are the same.
func TestSameOfEachForm(t *testing.T) {
	l := isGood(t, zoo())
	for a := range l {
		for b := range l {
			mustSame(t, l, a, b, a == b)
		}
	}
}

// P13.2: without names just records are not the same as another one like them.
func TestSameWithoutNames(t *testing.T) {
	l := isGood(t, zoo(zoo()[api.FmArray], zoo()[api.FmOpen], zoo()[api.FmRecord], zoo()[api.FmPointer], zoo()[api.FmProc]))
	for form := api.FmArray; form <= api.FmProc; form++ {
		for b := zooEnd; b < len(l); b++ {
			mustSame(t, l, form, b, b == form+5 && form != api.FmRecord)
		}
	}
}

// P13.2
func TestSameOfRecords(t *testing.T) {
	l := isGood(t, with(record(0), record(0), numbered(record(0), 0), numbered(record(0), 1), named(numbered(record(0), 0), "B", ""), named(record(0), "B", ""), named(record(0), "A", "T"), named(numbered(record(0), 2), "A", "T"), named(numbered(record(0), 2), "B", "T"), record(7), record(7)))
	for a := basics; a < len(l); a++ {
		for b := basics; b < len(l); b++ {
			mustSame(t, l, a, b, a == b)
		}
	}
	// Two with one Mod and one Desc stand in no Good table; with -1 they do, and
	// are not the same.
	twice := with(numbered(record(0), 3), numbered(record(0), 3))
	mustSame(t, twice, 7, 8, false)
	mustSame(t, twice, 7, 7, false)
	twice[8].Desc = -1
	mustSame(t, twice, 7, 8, false)
	mustSame(t, twice, 7, 7, true)
}

// P13.2: names count, and nothing else; but records and procedures have theirs
// for nothing.
func TestSameByName(t *testing.T) {
	other := tys{api.FmArray: array(9, api.FmSet), api.FmOpen: open(api.FmBool), api.FmRecord: record(api.FmRecord), api.FmPointer: pointer(zooEnd), api.FmProc: proc(1)}
	for x := api.FmArray; x <= api.FmProc; x++ {
		for y := api.FmArray; y <= api.FmProc; y++ {
			l := zoo(record(0), named(zoo()[x], "A", "T"), named(other[y], "A", "T"), named(zoo()[y], "A", "U"), named(zoo()[y], "B", "T"), zoo()[y], named(zoo()[y], "A", "T"))
			isGood(t, l)
			first := zooEnd + 1
			plainNames := x != api.FmRecord && x != api.FmProc && y != api.FmRecord && y != api.FmProc
			procs := x == api.FmProc && y == api.FmProc
			mustSame(t, l, first, first, true)
			mustSame(t, l, first, first+1, plainNames)
			mustSame(t, l, first, first+2, procs)
			mustSame(t, l, first, first+3, procs)
			mustSame(t, l, first, first+4, procs)
			mustSame(t, l, first, first+5, plainNames || procs)
			mustSame(t, l, first, x, procs || x == api.FmProc)
		}
	}
	// A record's Mod without a Name is no name.
	l := isGood(t, zoo(named(array(1, 1), "A", "T"), named(open(1), "T", "A")))
	mustSame(t, l, api.FmRecord, zooEnd, false)
	mustSame(t, l, zooEnd, zooEnd+1, false)
}

// P13.2
func TestSameOfElements(t *testing.T) {
	// 7 to 9 records and their pointers, each twice.
	l := with(record(0), record(0), pointer(7), pointer(7), pointer(8), array(3, 1), array(3, 1), array(4, 1), array(3, 2), open(1), open(1), open(2), array(3, 12), array(3, 13), array(3, 14), open(16), open(17), open(18), open(12), open(13), array(3, 9), array(3, 10), array(3, 11), array(3, 7), array(3, 7), array(3, 8))
	isGood(t, l)
	groups := [][]int{{9, 10}, {12, 13}, {16, 17}, {19, 20}, {22, 23}, {25, 26}, {27, 28}, {30, 31}}
	for a := basics; a < len(l); a++ {
		for b := basics; b < len(l); b++ {
			want := a == b
			for _, g := range groups {
				want = want || slices.Contains(g, a) && slices.Contains(g, b)
			}
			mustSame(t, l, a, b, want)
		}
	}
	// A named element is another one than its like without a name.
	l = isGood(t, with(named(array(3, 1), "A", "T"), array(3, 1), array(2, 7), array(2, 8), named(array(5, 2), "A", "T"), array(2, 11)))
	mustSame(t, l, 9, 10, false)
	mustSame(t, l, 9, 12, true)
}

// P13.2
func TestSameOfLengths(t *testing.T) {
	lens := []int{1, 2, 3, api.MaxLen - 1, api.MaxLen}
	for _, x := range lens {
		for _, y := range lens {
			l := isGood(t, with(array(x, 1), array(y, 1), array(2, 7), array(2, 8), open(7), open(8)))
			mustSame(t, l, 7, 8, x == y)
			mustSame(t, l, 9, 10, x == y)
			mustSame(t, l, 11, 12, x == y)
		}
	}
}

// P13.2
func TestSameOfProcs(t *testing.T) {
	same := [][2]api.Ty{
		{proc(0), proc(0)}, {proc(0), named(proc(0), "A", "T")}, {named(proc(1), "A", "T"), named(proc(1), "B", "U")}, {proc(2, value(1)), proc(2, value(1))}, {proc(0, variable(3)), proc(0, variable(3))},
		{proc(7, value(8), variable(7)), proc(8, value(7), variable(8))}, {proc(0, value(9)), proc(0, value(10))}, {proc(0, value(11)), proc(0, variable(11))},
	}
	for i, x := range same {
		l := isGood(t, with(pointer(12), pointer(12), array(2, 1), array(2, 1), open(1), record(0), x[0], x[1]))
		mustSame(t, l, 13, 14, i < len(same)-1)
	}
	unlike := []api.Ty{
		proc(0), proc(1), proc(2), proc(7), proc(0, value(1)), proc(1, value(1)), proc(0, variable(1)), proc(0, value(2)), proc(0, value(1), value(1)), proc(0, value(1), variable(1)), proc(0, variable(1), value(1)), proc(0, value(1), value(2)), proc(0, value(2), value(1)), proc(0, value(8)), proc(0, value(9)), proc(0, value(1), value(1), value(1)),
	}
	for i, x := range unlike {
		for k, y := range unlike {
			for _, mod := range []string{"A", "B"} {
				l := isGood(t, with(pointer(8), record(0), record(0), x, y, named(x, "A", "T"), named(y, mod, "T")))
				mustSame(t, l, 10, 11, i == k)
				mustSame(t, l, 12, 13, i == k)
				mustSame(t, l, 10, 13, i == k)
				mustSame(t, l, 10, 12, true)
			}
		}
	}
	// The last of MaxList parameters tells them apart.
	many := slices.Repeat([]api.TyParam{value(1)}, api.MaxList)
	changed := slices.Clone(many)
	changed[api.MaxList-1] = variable(1)
	l := isGood(t, with(proc(0, many...), proc(0, many...), proc(0, changed...)))
	mustSame(t, l, 7, 8, true)
	mustSame(t, l, 7, 9, false)
}

// P13.2: a pair that is asked again on its own way is the same.
func TestSameOfTypesThatLeadToThemselves(t *testing.T) {
	for i, x := range []struct {
		l    tys
		a, b int
		want bool
	}{
		{tys{proc(7), proc(8)}, 7, 8, true},
		{tys{proc(7), proc(7)}, 7, 8, true},
		{tys{proc(8), proc(7)}, 7, 8, true},
		{tys{proc(0, value(7)), proc(0, value(8))}, 7, 8, true},
		{tys{proc(0, value(7)), proc(0, variable(8))}, 7, 8, false},
		{tys{proc(0, value(8)), proc(0, value(7))}, 7, 8, true},
		{tys{proc(0, value(7)), proc(0, value(9)), proc(0, value(8))}, 7, 8, true},
		{tys{proc(0, value(7)), proc(0, value(9)), proc(0, variable(8))}, 7, 8, false},
		{tys{proc(0, value(7)), proc(0, value(9)), proc(0, variable(8))}, 7, 9, false},
		{tys{proc(1, value(7)), proc(1, value(9)), proc(2, value(8))}, 7, 8, false},
		{tys{proc(7, value(1)), proc(8, value(2))}, 7, 8, false},
		{tys{proc(7, value(7)), proc(8, value(7))}, 7, 8, true},
		{tys{proc(0, value(8)), array(3, 7), proc(0, value(10)), array(3, 9)}, 7, 9, true},
		{tys{proc(0, value(8)), array(3, 7), proc(0, value(10)), array(3, 9)}, 8, 10, true},
		{tys{proc(0, value(8)), array(3, 7), proc(0, value(10)), array(4, 9)}, 7, 9, false},
		{tys{proc(0, variable(8)), open(7), proc(0, variable(10)), open(9)}, 7, 9, true},
		// By a pointer the way ends at a record, that is the same as none but itself.
		{tys{pointer(8), record(0, field("a", 7)), pointer(10), record(0, field("a", 9))}, 7, 9, false},
		{tys{pointer(8), record(0, field("a", 7)), pointer(8)}, 7, 9, true},
		{tys{proc(0, value(8)), pointer(9), record(0, field("a", 7)), proc(0, value(11)), pointer(9)}, 7, 10, true},
		{tys{proc(8), pointer(9), record(0, field("a", 7)), proc(11), pointer(12), record(0, field("a", 10))}, 7, 10, false},
	} {
		l := isGood(t, with(x.l...))
		if there, back := Same(l, x.a, x.b), Same(l, x.b, x.a); there != x.want || back != x.want {
			t.Errorf("P13.2: case %d: %v, %v, want %v", i, there, back, x.want)
		}
	}
}

// ring is n procedures from the place first on, each with the next one as its
// parameter, the last with the first.
func ring(first, n int) tys {
	var l tys
	for i := range n {
		l = append(l, proc(0, value(first+(i+1)%n)))
	}
	return l
}

// P13.2: rings of any two lengths mean the same, if none of their types is
// unlike the others.
func TestSameOfRings(t *testing.T) {
	for n := 1; n <= 12; n++ {
		for m := 1; m <= 12; m++ {
			l := isGood(t, with(append(ring(7, n), ring(7+n, m)...)...))
			mustSame(t, l, 7, 7+n, true)
			mustSame(t, l, 7+n-1, 7+n+m-1, true)
			l[7+n+m-1].Result = 1
			mustSame(t, l, 7, 7+n, false)
			l[7+n-1].Result = 1
			mustSame(t, l, 7, 7+n, n == m)
		}
	}
	long := isGood(t, with(append(ring(7, 124), ring(131, 125)...)...))
	mustSame(t, long, 7, 131, true)
	long[255].Result = 4
	mustSame(t, long, 7, 131, false)
}

// P13.2: the answer does not wait for each way to a pair.
func TestSameOfManyWays(t *testing.T) {
	l := head()
	for a := basics; a < api.MaxTypes; a++ {
		x := proc(0)
		for i := range api.MaxList {
			x.Params = append(x.Params, value(basics+(a*(i+3)+i)%(api.MaxTypes-basics)))
		}
		l = append(l, x)
	}
	isGood(t, l)
	mustSame(t, l, 7, 8, true)
	mustSame(t, l, 100, 255, true)
	l[200].Result = 1
	mustSame(t, l, 7, 8, false)
	mustSame(t, l, 200, 8, false)
	mustSame(t, l, 200, 200, true)
	// Two ladders whose every step leads twice to the next one.
	l = with(proc(0), proc(0))
	for len(l)+2 <= api.MaxTypes {
		a := len(l)
		l = append(l, proc(0, value(a-2), value(a-2)), proc(0, value(a-1), value(a-1)))
	}
	isGood(t, l)
	last := len(l) - 1
	mustSame(t, l, last-1, last, true)
	l[7].Result = 1
	mustSame(t, l, last-1, last, false)
	mustFit(t, l, last-1, value(last), false)
	mustAssign(t, l, last-1, last, false)
}
