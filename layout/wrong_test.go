package layout

import (
	"testing"

	"spinet/api"
	"spinet/types"
)

// badTables have a record 7 of a character and a number, and what is wrong in
// another type; or they have no end, were they gone along without a look.
func badTables() []tys {
	all := []tys{nil, {}, head()[:6], head()[1:], make(tys, 7), make(tys, api.MaxTypes)}
	for _, wrong := range []api.Ty{
		{}, {Form: api.FmInt}, {Form: api.FmChar}, {Form: 12}, {Form: -1}, array(0, 1), array(-1, 1), array(api.MaxLen+1, 3), array(1, 0), array(1, 5), array(1, 6), array(1, 99), array(1, -1), open(6), open(99), record(1), record(99), record(-1), record(0, field("", 1)), record(0, field("a", 0)), record(0, field("a", 99)), record(0, field("a", -1)), record(7, field("a", 1)), record(0, fields('a', 1, 1)[0], field("a", 1)), pointer(1), pointer(-5), proc(6), proc(99), proc(0, api.TyParam{Type: 99}), {Form: api.FmRecord}, {Form: api.FmArray, Len: 1, Elem: 1, Mod: "A"}, record(0, many("f", api.MaxList+1, 1)...),
	} {
		all = append(all, with(record(0, fields('a', 3, 1)...), wrong))
	}
	long := with(record(0, fields('a', 3, 1)...))
	for len(long) <= api.MaxTypes {
		long = append(long, array(1, 1))
	}
	a := field("a", 1)
	return append(all, long, bases(api.MaxExt+2, 1),
		with(record(7, a)), with(record(8, a), record(7)), with(array(1, 7)), with(array(2, 8), array(2, 7)), with(open(7)), with(record(0, field("a", 7))), with(record(0, a, field("b", 8)), array(3, 7)), with(record(0, a, field("b", 8)), record(7)))
}

// P14.1: a table that is not Good has no sizes, no places and no variables.
func TestTablesThatAreNotGood(t *testing.T) {
	for _, l := range badTables() {
		if types.Good(l) {
			t.Fatalf("a Good table: %s", say(l))
		}
		for _, a := range append(outsides(l), 0, 1, 2, 3, 4, 7, 8, 9, len(l)-1) {
			mustSize(t, l, a, 0)
			for _, name := range []string{"a", "b", "f0x0", ""} {
				mustNotLie(t, l, a, name)
			}
			mustHaveNoVars(t, l, []int{a})
			mustHaveNoVars(t, l, []int{1, a, 3})
		}
		mustHaveNoVars(t, l, nil)
		mustHaveNoVars(t, l, []int{1, 2, 3})
	}
	// Without the wrong type the same calls have answers.
	l := isGood(t, with(record(0, fields('a', 3, 1)...)))
	mustSize(t, l, 7, 8)
	mustLie(t, l, 7, "b", 4, 1)
	mustVars(t, l, []int{1, 7, 3}, []int{0, 4, 12}, 16)
}

// P14.1: places outside of a table.
func TestPlacesOutside(t *testing.T) {
	full := with(record(0, fields('a', 3, 1)...))
	for len(full) < api.MaxTypes {
		full = append(full, record(0, fields('a', 1)...))
	}
	for _, l := range []tys{head(), zoo(), with(record(0, fields('a', 1)...)), full} {
		isGood(t, l)
		for _, a := range outsides(l) {
			mustSize(t, l, a, 0)
			for _, name := range []string{"a", "p", ""} {
				mustNotLie(t, l, a, name)
			}
			mustHaveNoVars(t, l, []int{a})
		}
	}
	// The last place of the longest table is one.
	mustSize(t, full, api.MaxTypes-1, 4)
	mustLie(t, full, api.MaxTypes-1, "a", 0, 1)
	mustVars(t, full, []int{api.MaxTypes - 1, api.MaxTypes - 1}, []int{0, 4}, 8)
}
