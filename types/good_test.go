package types

import (
	"fmt"
	"math"
	"reflect"
	"slices"
	"strings"
	"testing"

	"spinet/api"
)

// P13.1
func TestBasic(t *testing.T) {
	if got := Basic(); !reflect.DeepEqual(got, head()) {
		t.Errorf("P13.1: Basic: %v", got)
	}
	one, two := Basic(), Basic()
	for i := range one[:cap(one)] {
		one[:cap(one)][i] = record(1, field("a", 1))
	}
	if !reflect.DeepEqual(two, head()) || !reflect.DeepEqual(Basic(), head()) {
		t.Errorf("P13.1: Basic: two answers share memory: %v, %v", two, Basic())
	}
}

// P13.1
func TestGoodOfTheSeven(t *testing.T) {
	mustGood(t, nil, false)
	mustGood(t, tys{}, false)
	for n := range head() {
		mustGood(t, head()[:n], false)
		mustGood(t, slices.Delete(head(), n, n+1), false)
		// As many as seven, but one of them is missing.
		mustGood(t, append(slices.Delete(head(), n, n+1), array(1, 1)), false)
	}
	mustGood(t, head(), true)
	mustGood(t, Basic(), true)
	for a := range head() {
		for b := range head() {
			l := head()
			l[a], l[b] = l[b], l[a]
			mustGood(t, l, a == b)
		}
	}
}

type change struct {
	name string
	make func(x *api.Ty)
}

// changes give a type each part that a form may have, and none of them zero.
func changes() []change {
	return []change{
		{"Len", func(x *api.Ty) { x.Len = 1 }},
		{"Len", func(x *api.Ty) { x.Len = -1 }},
		{"Elem", func(x *api.Ty) { x.Elem = 1 }},
		{"Elem", func(x *api.Ty) { x.Elem = api.FmRecord }},
		{"Elem", func(x *api.Ty) { x.Elem = -1 }},
		{"Base", func(x *api.Ty) { x.Base = 1 }},
		{"Base", func(x *api.Ty) { x.Base = api.FmRecord }},
		{"Base", func(x *api.Ty) { x.Base = -1 }},
		{"Fields", func(x *api.Ty) { x.Fields = []api.TyField{{}} }},
		{"Fields", func(x *api.Ty) { x.Fields = []api.TyField{field("a", 1)} }},
		{"Params", func(x *api.Ty) { x.Params = []api.TyParam{{}} }},
		{"Params", func(x *api.Ty) { x.Params = []api.TyParam{value(1)} }},
		{"Result", func(x *api.Ty) { x.Result = 1 }},
		{"Result", func(x *api.Ty) { x.Result = -1 }},
		{"Desc", func(x *api.Ty) { x.Desc = 1 }},
		{"Desc", func(x *api.Ty) { x.Desc = -1 }},
	}
}

// P13.1
func TestGoodOfTheSevenChanged(t *testing.T) {
	names := []change{
		{"Mod", func(x *api.Ty) { x.Mod = "A" }},
		{"Name", func(x *api.Ty) { x.Name = "T" }},
		{"both", func(x *api.Ty) { x.Mod, x.Name = "A", "T" }},
	}
	for a := range head() {
		for _, c := range append(names, changes()...) {
			for _, l := range []tys{head(), zoo()} {
				c.make(&l[a])
				mustGood(t, l, false)
			}
		}
		for _, form := range append([]int{a - 1, a + 1, a + 7, -a - 1, a + 1<<32}, outsides()...) {
			l := head()
			l[a].Form = form
			mustGood(t, l, false)
		}
		l := head()
		l[a].Fields, l[a].Params = []api.TyField{}, make([]api.TyParam, 0, 3)
		mustGood(t, l, true)
	}
}

// P13.1
func TestGoodOfManyTypes(t *testing.T) {
	l := head()
	for len(l) < api.MaxTypes {
		mustGood(t, l, true)
		l = append(l, array(1, api.FmInt))
	}
	mustGood(t, l, true)
	mustGood(t, append(l, array(1, api.FmInt)), false)
	mustGood(t, append(l, l...), false)
	mustGood(t, make(tys, 1<<20), false)
}

// parts is what each form has, beside names.
func parts() [zooEnd]string {
	return [zooEnd]string{api.FmArray: "Len Elem", api.FmOpen: "Elem", api.FmRecord: "Base Fields Desc", api.FmPointer: "Elem", api.FmProc: "Params Result"}
}

// P13.1
func TestGoodWithoutPartsThatAFormDoesNotHave(t *testing.T) {
	mustGood(t, zoo(), true)
	for form := api.FmArray; form <= api.FmProc; form++ {
		tried := 0
		for _, c := range changes() {
			if strings.Contains(parts()[form], c.name) {
				continue
			}
			tried++
			l := zoo(zoo()[form])
			mustGood(t, l, true)
			c.make(&l[zooEnd])
			mustGood(t, l, false)
		}
		if tried < 8 {
			t.Errorf("form %d: %d changes", form, tried)
		}
		l := zoo()
		l[form].Fields, l[form].Params = make([]api.TyField, 0, 2), []api.TyParam{}
		mustGood(t, l, true)
	}
}

// P13.1
func TestGoodOfFormsThatAreNone(t *testing.T) {
	forms := append([]int{0, 1, 2, 3, 4, 5, 6, 12, 13, -3}, outsides()...)
	for _, form := range forms {
		mustGood(t, with(api.Ty{Form: form}), false)
		mustGood(t, zoo(named(api.Ty{Form: form}, "A", "T")), false)
		for a := api.FmArray; a <= api.FmProc; a++ {
			l := zoo(zoo()[a])
			l[zooEnd].Form = form
			mustGood(t, l, false)
		}
	}
}

// placesBehindZoo are places of a table of zooEnd + 1 types, and of none.
func placesBehindZoo() []int {
	l := append(outsides(), zooEnd+1, zooEnd+2)
	for a := range zooEnd + 1 {
		l = append(l, a)
	}
	return l
}

func elements() []int {
	return []int{api.FmInt, api.FmBool, api.FmChar, api.FmSet, api.FmArray, api.FmRecord, api.FmPointer, api.FmProc}
}

func openElements() []int { return append(elements(), api.FmOpen) }

func results() []int {
	return []int{api.FmNone, api.FmInt, api.FmBool, api.FmChar, api.FmSet, api.FmPointer, api.FmProc}
}

// P13.1
func TestGoodOfPlaces(t *testing.T) {
	self := zooEnd
	for _, x := range []struct {
		name string
		make func(a int) api.Ty
		good []int
	}{
		{"array", func(a int) api.Ty { return array(1, a) }, elements()},
		{"open", func(a int) api.Ty { return open(a) }, openElements()},
		{"base", func(a int) api.Ty { return record(a) }, []int{0, api.FmRecord}},
		{"field", func(a int) api.Ty { return record(0, field("a", a)) }, elements()},
		{"last field", func(a int) api.Ty { return record(0, field("a", 1), field("b", a)) }, elements()},
		{"pointer", func(a int) api.Ty { return pointer(a) }, []int{api.FmRecord}},
		{"value", func(a int) api.Ty { return proc(0, value(a)) }, append(openElements(), self)},
		{"variable", func(a int) api.Ty { return proc(0, variable(a)) }, append(openElements(), self)},
		{"last parameter", func(a int) api.Ty { return proc(0, value(1), variable(a)) }, append(openElements(), self)},
		{"result", func(a int) api.Ty { return proc(a) }, append(results(), self)},
		{"result of some", func(a int) api.Ty { return proc(a, value(2)) }, append(results(), self)},
	} {
		for _, a := range placesBehindZoo() {
			l, want := zoo(x.make(a)), slices.Contains(x.good, a)
			if got := Good(l); got != want {
				t.Errorf("P13.1: %s of %d: %v, want %v", x.name, a, got, want)
			}
			// What stands behind is a place as well as what stands ahead.
			if want && a >= api.FmArray && a < zooEnd {
				mustGood(t, with(append(tys{moved(x.make(a))}, movedAll(zoo()[basics:])...)...), true)
			}
		}
	}
}

// moved is the type with its places from FmArray on one further behind.
func moved(x api.Ty) api.Ty {
	move := func(a int) int {
		if a >= basics {
			return a + 1
		}
		return a
	}
	x.Elem, x.Base, x.Result = move(x.Elem), move(x.Base), move(x.Result)
	x.Fields, x.Params = slices.Clone(x.Fields), slices.Clone(x.Params)
	for i := range x.Fields {
		x.Fields[i].Type = move(x.Fields[i].Type)
	}
	for i := range x.Params {
		x.Params[i].Type = move(x.Params[i].Type)
	}
	return x
}

func movedAll(l tys) tys {
	var out tys
	for _, x := range l {
		out = append(out, moved(x))
	}
	return out
}

// P13.1
func TestGoodOfLengths(t *testing.T) {
	for _, n := range []int{1, 2, api.MaxLen - 1, api.MaxLen} {
		mustGood(t, with(array(n, 1)), true)
	}
	for _, n := range []int{0, -1, -api.MaxLen, api.MaxLen + 1, 1 << 31, 1 << 32, 1<<32 + 1, math.MaxInt, math.MinInt} {
		mustGood(t, with(array(n, 1)), false)
	}
}

// fields are n of them, with names f0, f1 and so on, from first on.
func fields(first, n int) []api.TyField {
	var l []api.TyField
	for i := range n {
		l = append(l, field(fmt.Sprint("f", first+i), 1+i%4))
	}
	return l
}

// P13.1
func TestGoodOfFields(t *testing.T) {
	mustGood(t, with(record(0, fields(0, api.MaxList)...)), true)
	mustGood(t, with(record(0, fields(0, api.MaxList+1)...)), false)
	mustGood(t, with(record(0, slices.Repeat([]api.TyField{field("a", 1)}, 1<<18)...)), false)
	exported := api.TyField{Name: "a", Export: true, Type: 1}
	mustGood(t, with(record(0, exported)), true)
	mustGood(t, with(record(0, exported, field("a", 1))), false)
	mustGood(t, with(record(0, field("a", 1), field("a", 1))), false)
	mustGood(t, with(record(0, field("a", 1), field("b", 1), field("a", 2))), false)
	mustGood(t, with(record(0, field("a", 1), field("A", 1), field("a1", 1))), true)
	twice := append(fields(0, api.MaxList-1), field("f0", 1))
	mustGood(t, with(record(0, twice...)), false)
	// In itself and a base, and a base's base; whichever stands first.
	mustGood(t, with(record(0, field("a", 1)), record(7, field("b", 1))), true)
	mustGood(t, with(record(0, field("a", 1)), record(7, field("a", 1))), false)
	mustGood(t, with(record(8, field("a", 1)), record(0, field("a", 1))), false)
	mustGood(t, with(record(0, field("a", 1)), record(7, field("b", 1)), record(8, field("c", 1))), true)
	mustGood(t, with(record(0, field("a", 1)), record(7, field("b", 1)), record(8, field("a", 1))), false)
	mustGood(t, with(record(0, field("a", 1)), record(7), record(8, field("a", 1))), false)
	mustGood(t, with(record(8, field("a", 1)), record(9, field("b", 1)), record(0, field("a", 1))), false)
	// Beside each other they may have one name, and so may the extensions of one record.
	mustGood(t, with(record(0, field("a", 1)), record(0, field("a", 1))), true)
	mustGood(t, with(record(0, field("a", 1)), record(7, field("b", 1)), record(7, field("b", 2))), true)
	mustGood(t, with(record(0, field("a", 1)), record(0, field("a", 7))), true)
	// A name of a type is none of a field.
	mustGood(t, with(named(record(0, field("T", 1)), "A", "T"), named(array(1, 1), "A", "U"), record(0, field("A", 8))), true)
}

// chain is n records, each the base of the next, with a field each; the first
// has none.
func chain(n int) tys {
	var l tys
	for i := range n {
		base := 0
		if i > 0 {
			base = basics + i - 1
		}
		l = append(l, record(base, fields(i, 1)...))
	}
	return l
}

// P13.1
func TestGoodOfBases(t *testing.T) {
	for n := range api.MaxExt + 2 {
		mustGood(t, with(chain(n)...), true)
	}
	mustGood(t, with(chain(api.MaxExt+2)...), false)
	mustGood(t, with(chain(api.MaxTypes-basics)...), false)
	// Many extensions of one record are not one behind the other.
	l := with(record(0))
	for range 40 {
		l = append(l, record(basics))
	}
	mustGood(t, l, true)
	// MaxExt bases of MaxList fields each.
	l = chain(api.MaxExt + 1)
	for i := range l {
		l[i].Fields = fields(i*api.MaxList, api.MaxList)
	}
	mustGood(t, with(l...), true)
	l[api.MaxExt].Fields[api.MaxList-1].Name = "f0"
	mustGood(t, with(l...), false)
	// The furthest stands first.
	back := tys{record(8), record(9), record(10), record(11), record(0)}
	mustGood(t, with(back...), true)
	mustGood(t, with(record(8), record(9), record(10), record(11), record(12), record(0)), false)
}

// P13.1
func TestGoodOfParams(t *testing.T) {
	many := slices.Repeat([]api.TyParam{value(1), variable(2)}, api.MaxList/2)
	mustGood(t, with(proc(0)), true)
	mustGood(t, with(proc(3, many...)), true)
	mustGood(t, with(proc(3, append(many, value(1))...)), false)
	mustGood(t, with(proc(0, slices.Repeat(many, 1<<12)...)), false)
}

// P13.1
func TestGoodOfTypesInThemselves(t *testing.T) {
	for i, l := range []tys{
		{array(1, 7)}, {array(1, 8), array(1, 7)}, {array(1, 8), array(1, 9), array(1, 7)}, {array(1, 1), array(1, 8)},
		{open(7)}, {open(8), open(7)}, {open(8), open(9), open(7)},
		{record(7)}, {record(8), record(7)}, {record(8), record(9), record(7)}, {record(0), record(8)}, {record(8), record(9), record(8)},
		{record(0, field("a", 7))}, {record(0, field("a", 1), field("b", 7))}, {record(0, field("a", 8)), record(0, field("a", 7))}, {record(0, field("a", 8)), record(0, field("a", 9)), record(0, field("a", 7))},
		{array(1, 8), record(0, field("a", 7))}, {record(8), record(0, field("a", 7))}, {record(0, field("a", 8)), record(7)}, {record(8), record(0, field("a", 9)), array(1, 7)}, {record(0, field("a", 8)), array(1, 9), record(7)},
		{open(8), array(1, 9), record(0, field("a", 8))}, {record(9), record(0, field("a", 7)), record(0, field("b", 8))}, {pointer(8), record(0, field("a", 7), field("b", 8))},
	} {
		if Good(with(l...)) {
			t.Errorf("P13.1: ring %d", i)
		}
	}
	for i, l := range []tys{
		{pointer(8), record(0, field("a", 7))}, {record(0, field("a", 8)), pointer(7)}, {record(0, field("a", 8)), array(3, 9), pointer(7)}, {record(0, field("a", 9)), record(7, field("b", 9)), pointer(8)},
		{proc(7)}, {proc(0, value(7))}, {proc(0, variable(7))}, {proc(8), proc(7)}, {proc(0, value(8)), proc(7)}, {proc(0, variable(8)), record(0, field("a", 7))}, {array(2, 8), proc(0, value(7))}, {open(8), proc(0, variable(7))}, {proc(8), pointer(9), record(0, field("a", 7), field("b", 8))},
		// One type in several, and in one several times, is no ring.
		{array(1, 1), array(1, 7), array(2, 7), record(0, field("a", 7), field("b", 8), field("c", 7))}, {record(0), record(7, field("a", 7), field("b", 7))}, {record(8, field("a", 8)), record(0)},
	} {
		if !Good(with(l...)) {
			t.Errorf("P13.1: no ring %d", i)
		}
	}
	// A long way is none, and a long ring is one.
	way := head()
	for a := basics; a < api.MaxTypes-1; a++ {
		way = append(way, array(1, a+1))
	}
	mustGood(t, append(way, array(1, 1)), true)
	mustGood(t, append(way, array(1, basics)), false)
}

// P13.1: each field leads to the next type by many ways.
func TestGoodOfManyWays(t *testing.T) {
	l := head()
	for a := basics; a < api.MaxTypes; a++ {
		x := record(0, fields(0, api.MaxList)...)
		for i := range x.Fields {
			x.Fields[i].Type = min(a+1+i%2, api.MaxTypes-1)
		}
		l = append(l, x)
	}
	mustGood(t, l, false)
	l[api.MaxTypes-1].Fields = nil
	mustGood(t, l, true)
}

type nameCase struct {
	name string
	ok   bool
}

func names() []nameCase {
	return []nameCase{
		{"a", true}, {"z", true}, {"A", true}, {"Z", true}, {"a1", true}, {"Z9", true}, {"a0b", true}, {"END", true}, {"MODULE", true}, {"INTEGER", true}, {"ab", true}, {longest, true}, {longest[1:] + "0", true},
		{"", false}, {"1", false}, {"0a", false}, {"9", false}, {"_", false}, {"a_", false}, {"_a", false}, {"a.b", false}, {".", false}, {" ", false}, {" a", false}, {"a ", false}, {"a\x00", false}, {"\x00", false}, {"@", false}, {"[", false}, {"`", false}, {"{", false}, {"/", false}, {":", false},
		{"a@", false}, {"a[", false}, {"a`", false}, {"a{", false}, {"a/", false}, {"a:", false}, {"\u00e9", false}, {"a\u00e9", false}, {"\xe9", false}, {"a\xff", false}, {"\u00aa", false}, {"a\u0660", false}, {tooLong, false}, {longest[1:] + ".", false}, {strings.Repeat("a", 1<<16), false},
	}
}

// P13.1
func TestGoodOfNames(t *testing.T) {
	for _, x := range names() {
		mustGood(t, with(record(0, field(x.name, 1))), x.ok)
		mustGood(t, with(record(0, field("q", 1), field(x.name, 1))), x.ok)
		mustGood(t, with(named(record(0), x.name, "")), x.ok)
		for form := api.FmArray; form <= api.FmProc; form++ {
			mustGood(t, zoo(named(zoo()[form], x.name, "T")), x.ok)
			// An empty Name beside a Mod is a record's alone.
			mustGood(t, zoo(named(zoo()[form], "A", x.name)), x.ok || x.name == "" && form == api.FmRecord)
			mustGood(t, zoo(named(zoo()[form], "", x.name)), x.name == "" && form != api.FmRecord)
			if x.name != "" {
				mustGood(t, zoo(named(zoo()[form], x.name, "")), x.ok && form == api.FmRecord)
				mustGood(t, zoo(named(zoo()[form], x.name, x.name)), x.ok)
			}
		}
	}
	// One Mod and Name may stand at several places.
	mustGood(t, zoo(named(array(1, 1), "A", "T"), named(open(1), "A", "T"), named(record(0), "A", "T"), named(record(0), "A", "T"), named(pointer(9), "A", "T"), named(proc(0), "A", "T")), true)
}

// P13.1
func TestGoodOfDescs(t *testing.T) {
	for _, n := range []int{-1, 0, 1, api.MaxDesc - 1} {
		mustGood(t, with(numbered(record(0), n)), true)
		mustGood(t, with(numbered(record(0), n), named(numbered(record(0), n), "B", "")), true)
		mustGood(t, with(numbered(record(0), n), numbered(record(0), n)), n == -1)
		mustGood(t, with(numbered(record(0), n), named(numbered(record(0), n), "A", "T")), n == -1)
		mustGood(t, with(named(numbered(record(0), n), "A", "T"), numbered(record(7), n)), n == -1)
		mustGood(t, with(numbered(record(0), n), array(1, 1), numbered(record(0), 5), numbered(record(0), n)), n == -1)
	}
	for _, n := range []int{-2, -api.MaxDesc, api.MaxDesc, api.MaxDesc + 1, 1 << 32, 1<<32 - 1, math.MaxInt, math.MinInt} {
		mustGood(t, with(numbered(record(0), n)), false)
	}
	// All of a module's, and of another one.
	l := head()
	for n := range api.MaxDesc {
		l = append(l, numbered(record(0), n), named(numbered(record(0), api.MaxDesc-1-n), "B", ""))
	}
	mustGood(t, l, true)
	mustGood(t, append(l, record(0), record(0)), true)
	mustGood(t, append(l, numbered(record(0), 0)), false)
	// Mod and Desc don't run together.
	mustGood(t, with(named(numbered(record(0), 11), "A", ""), named(numbered(record(0), 1), "A1", "")), true)
}
