package iface

import (
	"slices"
	"testing"

	"spinet/api"
)

// mustTrimTo is a module of these types and objects alone.
func mustTrimTo(t *testing.T, f api.Face, types tys, objs ...api.Obj) {
	t.Helper()
	mustTrim(t, isTable(t, f), mod(types, objs...))
}

// The chapter's example 1.
func TestTheExample(t *testing.T) {
	mustTrimTo(t, mod(with(array(2, 1))), head())
	mustTrimTo(t, mod(with(array(2, 1), array(3, 1)), varOf("v", 8, 0)), with(array(3, 1)), varOf("v", 7, 0))
}

// P16.2: what is left of the rich one, written out.
func TestTrimOfTheRichOne(t *testing.T) {
	f := rich()
	f.Objs = slices.Delete(f.Objs, 8, 9) // O
	mustTrimTo(t, f, with(
		named(pointer(8), "A", "P"), // 7, of P
		named(record("A", 0, 0, field("a", 7), api.TyField{Name: "b", Export: true, Type: 1}), "A", "R"),
		array(3, 10), // 9, of v
		record("A", 1, 11),
		named(record("B", 5, 0), "B", "R"),
		proc(7, variable(11), value(3)), // 12, of q
		named(proc(0, value(14)), "C", "Q"),
		open(3),
	),
		constOf("i", api.FmInt, 9), constOf("b", api.FmBool, 1), constOf("c", api.FmChar, 255), constOf("s", api.FmSet, 1<<31),
		constOf("n", api.FmNil, 0), textOf("t", "text"),
		typeOf("P", 7), typeOf("I", 1), varOf("v", 9, 1), varOf("w", 2, 0), procOf("q", 12, 63), procOf("r", 13, 1),
	)
}

// P16.2: a type is needed through each part alone.
func TestTrimThroughOnePart(t *testing.T) {
	// 7 an array of CHAR, 8 a record with a field, and 9 what leads to one of them.
	to := func(x api.Ty) api.Face {
		return mod(with(array(2, 3), record("A", 0, 0, field("a", 2)), x), typeOf("T", 9))
	}
	arrays := with(api.Ty{}, array(2, 3))
	records := with(api.Ty{}, record("A", 0, 0, field("a", 2)))
	for _, c := range []struct {
		given, want api.Ty
		types       tys
	}{
		{array(9, 7), array(9, 8), arrays},
		{open(7), open(8), arrays},
		{pointer(8), pointer(8), records},
		{record("A", 1, 8), record("A", 0, 8), with(api.Ty{}, record("A", 1, 0, field("a", 2)))},
		{record("B", 7, 8), record("B", 7, 8), records},
		{record("B", 7, 0, field("b", 7)), record("B", 7, 0, field("b", 8)), arrays},
		{record("B", 7, 0, field("b", 1), field("c", 3), field("d", 7)), record("B", 7, 0, field("b", 1), field("c", 3), field("d", 8)), arrays},
		{proc(0, value(7)), proc(0, value(8)), arrays},
		{proc(1, value(1), variable(4), variable(7)), proc(1, value(1), variable(4), variable(8)), arrays},
	} {
		c.types[7] = c.want
		mustTrimTo(t, to(c.given), c.types, typeOf("T", 7))
	}
	mustTrimTo(t, mod(with(record("A", 0, 0), pointer(7), proc(8)), procOf("p", 9, 1)), with(proc(8), pointer(9), record("A", 0, 0)), procOf("p", 7, 1))
}

// P16.2: of one type Elem, Base, the Fields' types, the Params', Result are
// visited in this order, each with all that stands in it ahead of the next one.
func TestTrimOrder(t *testing.T) {
	f := mod(with(
		record("A", 0, 0, field("a", 10)), // 7
		record("A", 1, 7, field("b", 12), field("c", 11), field("d", 9), field("e", 12)),
		array(2, 10), // 9
		array(3, 1),
		array(4, 13), // 11
		pointer(8),
		array(5, 2), // 13
		proc(12, value(9), variable(7), value(11)),
		array(6, 3), // 15
	))
	base := record("A", 1, 0, field("a", 9))
	f.Objs = []api.Obj{varOf("r", 8, 0)}
	mustTrimTo(t, f, with(
		record("A", 0, 8, field("b", 10), field("c", 11), field("d", 13), field("e", 10)), base, array(3, 1), pointer(7), array(4, 12), array(5, 2), array(2, 9),
	), varOf("r", 7, 0))
	f.Objs = []api.Obj{varOf("p", 14, 0)}
	mustTrimTo(t, f, with(
		proc(13, value(8), variable(10), value(11)), array(2, 9), array(3, 1), record("A", 0, 0, field("a", 9)), array(4, 12), array(5, 2), pointer(14),
		record("A", 1, 10, field("b", 13), field("c", 11), field("d", 8), field("e", 13)),
	), varOf("p", 7, 0))
	// Object by object, in their order, whatever the places.
	f.Objs = []api.Obj{typeOf("x", 15), varOf("y", 13, 0), typeOf("i", 1), varOf("z", 15, 2), typeOf("q", 11), varOf("u", 10, 7)}
	mustTrimTo(t, f, with(array(6, 3), array(5, 2), array(4, 8), array(3, 1)), typeOf("x", 7), varOf("y", 8, 0), typeOf("i", 1), varOf("z", 7, 2), typeOf("q", 9), varOf("u", 10, 7))
	slices.Reverse(f.Objs)
	mustTrimTo(t, f, with(array(3, 1), array(4, 9), array(5, 2), array(6, 3)), varOf("u", 7, 7), typeOf("q", 8), varOf("z", 10, 2), typeOf("i", 1), varOf("y", 9, 0), typeOf("x", 10))
}

// P16.2: types that lead to themselves.
func TestTrimOfRings(t *testing.T) {
	// A record whose field points to it.
	list := with(array(2, 1), pointer(9), record("A", 0, 0, field("next", 8)))
	mustTrimTo(t, mod(list, typeOf("P", 8)), with(pointer(8), record("A", 0, 0, field("next", 7))), typeOf("P", 7))
	mustTrimTo(t, mod(list, typeOf("R", 9)), with(record("A", 0, 0, field("next", 8)), pointer(7)), typeOf("R", 7))
	// A procedure that takes a pointer to a record in which such a procedure stands.
	calls := with(record("A", 0, 0, field("do", 8)), proc(0, value(9)), pointer(7))
	mustTrimTo(t, mod(calls, procOf("p", 8, 1)), with(proc(0, value(8)), pointer(9), record("A", 0, 0, field("do", 7))), procOf("p", 7, 1))
	// A procedure that takes and tells itself.
	self := with(array(2, 1), proc(8, value(8), variable(8)))
	mustTrimTo(t, mod(self, procOf("p", 8, 1)), with(proc(7, value(7), variable(7))), procOf("p", 7, 1))
	// A record that an extension of it points to, and a ring of two pointers.
	two := with(record("A", 0, 0, field("b", 10)), record("A", 1, 7, field("a", 9)), pointer(7), pointer(8))
	mustTrimTo(t, mod(two, varOf("v", 9, 0)), with(pointer(8), record("A", 0, 0, field("b", 9)), pointer(10), record("A", 1, 8, field("a", 7))), varOf("v", 7, 0))
	mustTrimTo(t, mod(two), head())
}

// P16.2: the longest way from type to type.
func TestTrimOfAChain(t *testing.T) {
	f, want := mod(head()), mod(head(), varOf("v", 7, 0))
	for len(f.Types) < api.MaxTypes {
		f.Types = append(f.Types, proc(0, value(len(f.Types)-1)))
	}
	f.Types[7].Params = nil
	f.Objs = []api.Obj{varOf("v", api.MaxTypes-1, 0)}
	for len(want.Types) < api.MaxTypes {
		want.Types = append(want.Types, proc(0, value(len(want.Types)+1)))
	}
	want.Types[api.MaxTypes-1].Params = nil
	mustTrim(t, isTable(t, f), want)
	mustTrim(t, want, want)
}

// P16.2: own records are numbered anew, in the new order, whatever numbers they
// had; those of others keep theirs.
func TestTrimNumbersRecords(t *testing.T) {
	given := func(l ...int) api.Face {
		return mod(with(record("A", l[0], 0, field("a", 1)), record("B", 4, 0), record("A", l[1], 0, field("b", 1)), record("A", l[2], 0, field("c", 1)), record("B", 0, 0)),
			typeOf("z", 10), typeOf("y", 8), typeOf("x", 7), typeOf("w", 11))
	}
	for _, l := range [][]int{{0, 1, 2}, {2, 1, 0}, {-1, -1, -1}, {-1, 0, -1}, {5, 3, 63}, {1, 2, 3}, {0, -1, 1}, {63, -1, 0}} {
		f := given(l...)
		mustGood(t, f, slices.Equal(l, []int{0, 1, 2}))
		mustTrimTo(t, f, with(record("A", 0, 0, field("c", 1)), record("B", 4, 0), record("A", 1, 0, field("a", 1)), record("B", 0, 0)),
			typeOf("z", 7), typeOf("y", 8), typeOf("x", 9), typeOf("w", 10))
	}
	// Others without a number are refused, whether they are needed or not.
	f := given(0, 1, 2)
	f.Types[8].Desc = -1
	mustRefuse(t, isTable(t, f))
	f.Objs = nil
	mustRefuse(t, f)
	// And so are numbers that types.Good refuses.
	for _, l := range [][]int{{0, 0, 1}, {-2, 0, 1}, {0, api.MaxDesc, 1}} {
		mustRefuse(t, given(l...))
	}
}

// records has one of each of these modules: the object p needs the first MaxList
// of them, q the next ones.
func records(mods []string) api.Face {
	f := mod(with(proc(0), proc(0)), typeOf("p", 7), typeOf("q", 8))
	next := map[string]int{"A": -1}
	for i, m := range mods {
		p := &f.Types[7+i/api.MaxList]
		p.Params = append(p.Params, variable(len(f.Types)))
		f.Types = append(f.Types, record(m, next[m], 0))
		if m != "A" {
			next[m]++
		}
	}
	return f
}

// mustNumber wants n records of module A, numbered from 0 on.
func mustNumber(t *testing.T, f api.Face, n int) {
	t.Helper()
	got, err := Trim(isTable(t, f))
	var l []int
	for _, x := range got.Types {
		if x.Form == api.FmRecord && x.Mod == "A" {
			l = append(l, x.Desc)
		}
	}
	if err != api.OK || len(l) != n || n > 0 && (l[0] != 0 || l[n-1] != n-1) || !Good(got) {
		t.Errorf("P16.2: of %s: %v, %s, %v, want %d records", say(f), l, say(got), err, n)
	}
}

// P16.2: just MaxDesc own records that are needed, and one more.
func TestTrimOfManyRecords(t *testing.T) {
	for _, n := range []int{1, api.MaxDesc - 1, api.MaxDesc} {
		mustNumber(t, records(slices.Repeat([]string{"A"}, n)), n)
		mustNumber(t, records(slices.Repeat([]string{"A", "B"}, n)), n)
		mustNumber(t, records(slices.Repeat([]string{"B"}, n)), 0)
	}
	for _, n := range []int{api.MaxDesc + 1, api.MaxDesc + 2, 2 * api.MaxDesc} {
		f := records(slices.Repeat([]string{"A"}, n))
		mustRefuse(t, isTable(t, f))
		// Those that are not needed don't count.
		f.Objs = f.Objs[:1]
		mustNumber(t, f, api.MaxDesc)
		f.Objs = nil
		mustNumber(t, f, 0)
	}
}

// P16.2: all but the types stays as it is, needed or not.
func TestTrimKeepsTheRest(t *testing.T) {
	mustTrim(t, api.Face{Name: "A", Types: head()}, api.Face{Name: "A", Types: head()})
	f := mod(with(named(array(2, 1), "B", "T"), record("C", 3, 0)), constOf("k", 1, -3), typeOf("I", 4))
	want := mod(head(), constOf("k", 1, -3), typeOf("I", 4))
	mustTrim(t, isTable(t, f), want)
	f.Key, want.Key = 0, 0
	f.Uses[1].Key, want.Uses[1].Key = 1<<32-1, 1<<32-1
	mustTrim(t, f, want)
	f.Uses, want.Uses = append(f.Uses, api.Used{Name: "D"}), append(want.Uses, api.Used{Name: "D"})
	mustTrim(t, f, want)
	f.Types, f.Uses, want.Uses = head(), nil, nil
	mustTrim(t, f, want)
}
