package layout

import (
	"reflect"
	"slices"
	"testing"

	"spinet/api"
)

// roomy is the list with spare room behind it that is filled, too.
func roomy[T any](l []T, spare T) []T {
	out := make([]T, len(l), len(l)+3)
	copy(out, l)
	for i := len(l); i < cap(out); i++ {
		out[:cap(out)][i] = spare
	}
	return out
}

// roomyTable has spare room in each list, filled with what would be wrong, were
// it looked at.
func roomyTable(l tys) tys {
	out := roomy(l, api.Ty{Form: 99, Elem: -1})
	for a := range out {
		out[a].Fields = roomy(out[a].Fields, field("spare", 1))
		out[a].Params = roomy(out[a].Params, api.TyParam{Type: -1})
	}
	return out
}

// whole is the table with its lists' spare room.
func whole(l tys) tys {
	out := append(tys(nil), l[:cap(l)]...)
	for a := range out {
		out[a].Fields, out[a].Params = out[a].Fields[:cap(out[a].Fields)], out[a].Params[:cap(out[a].Params)]
	}
	return out
}

func goodTables() []tys {
	return []tys{
		head(), zoo(), bases(api.MaxExt+1, 3, 1, 2),
		with(array(api.MaxLen, 1), array(3, 7), record(0, fields('a', 3, 8)...), record(9, fields('c', 7)...)),
		with(proc(0, api.TyParam{Type: 8}), array(5, 3), record(0, fields('a', 3, 8, 2, 7)...), record(9, fields('e', 9, 3)...), pointer(10)),
	}
}

// P14.1: no argument is changed, its spare room neither, and what stands there is
// not looked at.
func TestArgumentsStayAsTheyAre(t *testing.T) {
	for i, l := range append(badTables(), goodTables()...) {
		given, before := roomyTable(l), whole(roomyTable(l))
		for a := -1; a <= min(len(l), 20); a++ {
			if Size(given, a) != Size(l, a) {
				t.Errorf("table %d: Size(%d) with spare room", i, a)
			}
			mustNotLie(t, given, a, "spare")
			Offset(given, a, "a")
			list := roomy([]int{3, a, 1}, -1)
			at, n := Vars(given, list)
			want, wantSize := Vars(l, []int{3, a, 1})
			if !slices.Equal(at, want) || n != wantSize {
				t.Errorf("table %d: Vars with %d and spare room: %v, %d", i, a, at, n)
			}
			if !slices.Equal(list[:cap(list)], []int{3, a, 1, -1, -1, -1}) {
				t.Errorf("table %d: Vars changed its list: %v", i, list[:cap(list)])
			}
		}
		if !reflect.DeepEqual(whole(given), before) {
			t.Errorf("table %d was changed", i)
		}
	}
}

// fill writes over a list and its spare room.
func fill(l []int, n int) {
	for i := range l[:cap(l)] {
		l[:cap(l)][i] = n
	}
}

// P14.1: what Vars answers is new memory each time.
func TestVarsShareNoMemory(t *testing.T) {
	l := zoo()
	for n := 1; n <= 40; n++ {
		given := roomy(slices.Repeat([]int{1}, n), 1)
		first, _ := Vars(l, given)
		second, _ := Vars(l, given)
		fill(first, -9)
		if !slices.Equal(second, steps(n, 4)) || slices.Contains(given[:cap(given)], -9) {
			t.Errorf("Vars of %d: %v, %v", n, second, given[:cap(given)])
		}
		fill(given, 7)
		if !slices.Equal(second, steps(n, 4)) || slices.Contains(first, 7) {
			t.Errorf("Vars of %d shares its argument's memory", n)
		}
		mustVars(t, l, slices.Repeat([]int{1}, n), steps(n, 4), 4*n)
	}
}

// A call hangs on no earlier one: a table that is changed is another one.
func TestSizesAreNotKept(t *testing.T) {
	l := with(array(3, 1), record(0, fields('a', 3, 7)...), record(8, fields('c', 2)...))
	for range 2 {
		mustSizes(t, l, 7, 12, 16, 20)
		mustLie(t, l, 9, "c", 16, 2)
		mustVars(t, l, []int{8, 9}, []int{0, 16}, 36)
		l[7].Len, l[8].Fields[0].Type = 1, 1
		mustSizes(t, l, 7, 4, 8, 12)
		mustLie(t, l, 9, "c", 8, 2)
		mustVars(t, l, []int{8, 9}, []int{0, 8}, 20)
		l[7].Len, l[8].Fields[0].Type = 3, 3
	}
}
