package iface

import (
	"fmt"
	"math"
	"reflect"
	"strings"
	"testing"

	"spinet/api"
	"spinet/types"
)

type tys = []api.Ty

const basics = api.FmText + 1

var (
	longest = strings.Repeat("n", api.MaxName)
	tooLong = longest + "n"
)

func array(n, elem int) api.Ty { return api.Ty{Form: api.FmArray, Len: n, Elem: elem} }
func open(elem int) api.Ty     { return api.Ty{Form: api.FmOpen, Elem: elem} }
func pointer(elem int) api.Ty  { return api.Ty{Form: api.FmPointer, Elem: elem} }

func record(mod string, desc, base int, l ...api.TyField) api.Ty {
	return api.Ty{Form: api.FmRecord, Mod: mod, Desc: desc, Base: base, Fields: l}
}

func proc(result int, l ...api.TyParam) api.Ty {
	return api.Ty{Form: api.FmProc, Params: l, Result: result}
}

func named(x api.Ty, mod, name string) api.Ty {
	x.Mod, x.Name = mod, name
	return x
}

func field(name string, a int) api.TyField { return api.TyField{Name: name, Type: a} }
func value(a int) api.TyParam              { return api.TyParam{Type: a} }
func variable(a int) api.TyParam           { return api.TyParam{Var: true, Type: a} }

// head is the seven, written out.
func head() tys {
	return tys{{Form: 0}, {Form: 1}, {Form: 2}, {Form: 3}, {Form: 4}, {Form: 5}, {Form: 6}}
}

func with(l ...api.Ty) tys { return append(head(), l...) }

func constOf(name string, form, n int) api.Obj {
	return api.Obj{Class: api.ClConst, Name: name, Type: form, Value: api.Value{Form: form, N: n}}
}

func textOf(name, s string) api.Obj {
	return api.Obj{Class: api.ClConst, Name: name, Type: api.FmText, Value: api.Value{Form: api.FmText, Text: s}}
}

func typeOf(name string, a int) api.Obj { return api.Obj{Class: api.ClType, Name: name, Type: a} }
func varOf(name string, a, n int) api.Obj {
	return api.Obj{Class: api.ClVar, Name: name, Type: a, N: n}
}
func procOf(name string, a, n int) api.Obj {
	return api.Obj{Class: api.ClProc, Name: name, Type: a, N: n}
}

// mod is a module A that uses B and C.
func mod(t tys, l ...api.Obj) api.Face {
	return api.Face{Name: "A", Key: 5, Uses: []api.Used{{Name: "B", Key: 7}, {Name: "C", Key: 9}}, Types: t, Objs: l}
}

// rich has types of every form, of its own and of others, with a name and
// without, and objects of every class.
func rich() api.Face {
	return mod(with(
		named(record("A", 0, 0, field("a", 8), api.TyField{Name: "b", Export: true, Type: 1}), "A", "R"), // 7
		named(pointer(7), "A", "P"),
		named(record("B", 5, 0), "B", "R"),
		proc(8, variable(9), value(3)), // 10
		record("A", 1, 9),
		array(3, 11),
		open(3), // 13
		record("A", 2, 0, field("x", 12)),
		record("C", 0, 0),
		named(pointer(15), "C", "P"), // 16
		named(proc(0, value(13)), "C", "Q"),
		named(array(4, 14), "B", "T"),
	),
		constOf("i", api.FmInt, 9), constOf("b", api.FmBool, 1), constOf("c", api.FmChar, 255), constOf("s", api.FmSet, 1<<31),
		constOf("n", api.FmNil, 0), textOf("t", "text"),
		typeOf("P", 8), typeOf("I", 1), typeOf("O", 13), varOf("v", 12, 1), varOf("w", 2, 0), procOf("q", 10, 63), procOf("r", 17, 1),
	)
}

// free is a place behind the rich types, for one more.
const free = 19

func say(f api.Face) string {
	s := fmt.Sprintf("%.40q key %d uses %.200q, %d types", f.Name, f.Key, fmt.Sprint(f.Uses), len(f.Types))
	for a := basics; a < min(len(f.Types), 24); a++ {
		s += fmt.Sprintf(" %d %.160s", a, fmt.Sprint(f.Types[a]))
	}
	return s + fmt.Sprintf(", %d objects %.900s", len(f.Objs), fmt.Sprint(f.Objs))
}

// level is a list in which an empty list is nil.
func level[T any](l []T) []T { return append([]T(nil), l...) }

// flat is the interface in memory of its own, its empty lists nil.
func flat(f api.Face) api.Face {
	f.Uses, f.Types, f.Objs = level(f.Uses), level(f.Types), level(f.Objs)
	for a := range f.Types {
		f.Types[a].Fields, f.Types[a].Params = level(f.Types[a].Fields), level(f.Types[a].Params)
	}
	return f
}

// alike holds two interfaces against each other without a word of the package.
func alike(a, b api.Face) bool { return reflect.DeepEqual(flat(a), flat(b)) }

func mustGood(t *testing.T, f api.Face, want bool) {
	t.Helper()
	if got := Good(f); got != want {
		t.Errorf("P16.1: Good of %s: %v, want %v", say(f), got, want)
	}
}

func mustSame(t *testing.T, a, b api.Face, want bool) {
	t.Helper()
	if there, back := Same(a, b), Same(b, a); there != want || back != want {
		t.Errorf("P16.1: Same of %s and %s: %v, %v, want %v", say(a), say(b), there, back, want)
	}
}

func mustFind(t *testing.T, f api.Face, name string, want api.Obj, there bool) {
	t.Helper()
	if got, ok := Find(f, name); got != want || ok != there {
		t.Errorf("P16.1: Find(%.40q) of %s: %v, %v, want %v, %v", name, say(f), got, ok, want, there)
	}
}

// mustTrim wants the answer, and that it is Good and trimmed.
func mustTrim(t *testing.T, f, want api.Face) {
	t.Helper()
	got, err := Trim(f)
	if err != api.OK || !alike(got, want) {
		t.Errorf("P16.2: Trim of %s: %s, %v, want %s", say(f), say(got), err, say(want))
		return
	}
	again, err := Trim(got)
	if err != api.OK || !alike(again, want) {
		t.Errorf("P16.3: Trim of Trim of %s: %s, %v, want %s", say(f), say(again), err, say(want))
	}
	if !Good(got) {
		t.Errorf("P16.3: Trim of %s: %s is not Good", say(f), say(got))
	}
}

func mustRefuse(t *testing.T, f api.Face) {
	t.Helper()
	if got, err := Trim(f); err != api.ErrFace || !reflect.DeepEqual(got, api.Face{}) {
		t.Errorf("P16.2: Trim of %s: %s, %v, want nothing, %v", say(f), say(got), err, api.ErrFace)
	}
}

// mustBe wants Good's answer, and Trim's where the numbers of the module's own
// records don't count.
func mustBe(t *testing.T, f api.Face, want bool) {
	t.Helper()
	mustGood(t, f, want)
	if want {
		if got, err := Trim(f); err != api.OK || !Good(got) {
			t.Errorf("P16.2: Trim of %s: %s, %v", say(f), say(got), err)
		}
		return
	}
	mustRefuse(t, f)
}

// isTable keeps a test's interface from being refused for its table.
func isTable(t *testing.T, f api.Face) api.Face {
	t.Helper()
	if !types.Good(f.Types) {
		t.Fatalf("no Good table: %s", say(f))
	}
	return f
}

// change is a word of Good's that is turned alone, and whether it still holds.
type change struct {
	what string
	make func(f *api.Face)
	want bool
}

func mustTakeChanges(t *testing.T, l []change) {
	t.Helper()
	for _, c := range l {
		f := rich()
		c.make(&f)
		t.Run(c.what, func(t *testing.T) { mustBe(t, f, c.want) })
	}
}

// outsides are no places of any table, and no numbers of objects.
func outsides() []int {
	return []int{-1, -2, -7, math.MinInt, api.MaxTypes, api.MaxTypes + 1, 1 << 31, 1 << 32, 1<<32 + 1, 1<<32 + 7, math.MaxInt}
}

type word struct {
	text string
	want bool
}

// words are names, and what is none.
func words() []word {
	l := []word{
		{"X", true}, {"z", true}, {"Az09", true}, {"END", true}, {longest, true},
		{"", false}, {tooLong, false}, {strings.Repeat("n", 1000), false}, {"1", false}, {"1a", false}, {"_", false}, {"a_", false}, {"a.b", false}, {" a", false}, {"a ", false},
		{"a\x00", false}, {"\xc3\xa4", false}, {"a\xc3\xa4", false}, {"a\n", false}, {"@", false}, {"[", false}, {"`", false}, {"{", false}, {"a/", false}, {"a:", false},
	}
	return l
}
