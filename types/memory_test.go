package types

import (
	"reflect"
	"testing"

	"spinet/api"
)

// roomy is the list with spare room behind it that is filled, too.
func roomy[T any](l []T, spare T) []T {
	out := make([]T, len(l), len(l)+3)
	copy(out, l)
	for i := len(l); i < cap(out); i++ {
		out[:cap(out)][i] = spare
	}
	return out
}

// roomyTable has spare room in each list, filled with what would be wrong, were
// it looked at.
func roomyTable(t tys) tys {
	out := roomy(t, api.Ty{Form: 99, Elem: -1})
	for a := range out {
		out[a].Fields = roomy(out[a].Fields, field("?", -1))
		out[a].Params = roomy(out[a].Params, value(-1))
	}
	return out
}

// whole is the table with its lists' spare room.
func whole(t tys) tys {
	out := append(tys(nil), t[:cap(t)]...)
	for a := range out {
		out[a].Fields, out[a].Params = out[a].Fields[:cap(out[a].Fields)], out[a].Params[:cap(out[a].Params)]
	}
	return out
}

func tables() []tys {
	long := with(chain(api.MaxExt + 1)...)
	return append(badTables(), head(), zoo(), forms(), long, with(append(ring(7, 3), ring(10, 4)...)...), with(numbered(record(0, fields(0, 9)...), 3), proc(7, value(7), variable(8)), named(pointer(7), "A", "P")))
}

// P13.1 to P13.5: no argument is changed, its spare room neither, and what
// stands there is not looked at.
func TestArgumentsStayAsTheyAre(t *testing.T) {
	for i, l := range tables() {
		given, before := roomyTable(l), whole(roomyTable(l))
		if Good(given) != Good(l) {
			t.Errorf("table %d: Good of it with spare room", i)
		}
		for a := -1; a <= len(l); a++ {
			if Level(given, a) != Level(l, a) {
				t.Errorf("table %d: Level(%d)", i, a)
			}
			for b := -1; b <= len(l); b++ {
				if askAll(given, a, b) != askAll(l, a, b) {
					t.Errorf("table %d: %d, %d", i, a, b)
				}
			}
			if len(l) > 64 {
				break
			}
		}
		if !reflect.DeepEqual(whole(given), before) {
			t.Errorf("table %d was changed", i)
		}
	}
}

func askAll(l tys, a, b int) [5]bool {
	return [5]bool{Same(l, a, b), Extends(l, a, b), Assign(l, a, b), Fits(l, a, value(b)), Fits(l, a, variable(b))}
}

// A call hangs on no earlier one: a table that is changed is another one.
func TestTablesAreNotKept(t *testing.T) {
	l := with(array(3, 1), array(3, 1), record(0), record(9))
	mustSame(t, l, 7, 8, true)
	mustExtend(t, l, 10, 9, true)
	mustLevel(t, l, 10, 1)
	l[8].Len, l[10].Base = 4, 0
	mustSame(t, l, 7, 8, false)
	mustExtend(t, l, 10, 9, false)
	mustLevel(t, l, 10, 0)
	l[8].Len, l[10].Base = 3, 9
	mustSame(t, l, 7, 8, true)
	mustExtend(t, l, 10, 9, true)
}

// P13.6: Same is the same the other way round, and what extends is assigned.
func TestWhatFollows(t *testing.T) {
	for i, l := range tables() {
		if len(l) > 64 {
			continue
		}
		for a := range l {
			for b := range l {
				if Same(l, a, b) != Same(l, b, a) {
					t.Errorf("P13.6: table %d: Same(%d, %d)", i, a, b)
				}
				if Extends(l, a, b) && !Assign(l, a, b) {
					t.Errorf("P13.6: table %d: %d extends %d, and is not assigned", i, a, b)
				}
				if Extends(l, a, b) && Level(l, a) < Level(l, b) {
					t.Errorf("P13.6: table %d: levels of %d and %d", i, a, b)
				}
			}
		}
	}
}
