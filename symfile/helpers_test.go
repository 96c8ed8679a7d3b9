package symfile

import (
	"fmt"
	"reflect"
	"strings"
	"testing"

	"spinet/api"
	"spinet/iface"
)

type tys = []api.Ty

var longest = strings.Repeat("n", api.MaxName)

func array(n, elem int) api.Ty { return api.Ty{Form: api.FmArray, Len: n, Elem: elem} }
func open(elem int) api.Ty     { return api.Ty{Form: api.FmOpen, Elem: elem} }
func pointer(elem int) api.Ty  { return api.Ty{Form: api.FmPointer, Elem: elem} }

func record(mod string, desc, base int, l ...api.TyField) api.Ty {
	return api.Ty{Form: api.FmRecord, Mod: mod, Desc: desc, Base: base, Fields: l}
}

func proc(result int, l ...api.TyParam) api.Ty {
	return api.Ty{Form: api.FmProc, Params: l, Result: result}
}

func named(x api.Ty, mod, name string) api.Ty {
	x.Mod, x.Name = mod, name
	return x
}

func field(name string, a int) api.TyField { return api.TyField{Name: name, Type: a} }
func shown(name string, a int) api.TyField { return api.TyField{Name: name, Export: true, Type: a} }
func value(a int) api.TyParam              { return api.TyParam{Type: a} }
func variable(a int) api.TyParam           { return api.TyParam{Var: true, Type: a} }

// head is the seven, written out.
func head() tys {
	return tys{{Form: 0}, {Form: 1}, {Form: 2}, {Form: 3}, {Form: 4}, {Form: 5}, {Form: 6}}
}

func with(l ...api.Ty) tys { return append(head(), l...) }

func constOf(name string, form, n int) api.Obj {
	return api.Obj{Class: api.ClConst, Name: name, Type: form, Value: api.Value{Form: form, N: n}}
}

func textOf(name, s string) api.Obj {
	return api.Obj{Class: api.ClConst, Name: name, Type: api.FmText, Value: api.Value{Form: api.FmText, Text: s}}
}

func typeOf(name string, a int) api.Obj { return api.Obj{Class: api.ClType, Name: name, Type: a} }
func varOf(name string, a, n int) api.Obj {
	return api.Obj{Class: api.ClVar, Name: name, Type: a, N: n}
}
func procOf(name string, a, n int) api.Obj {
	return api.Obj{Class: api.ClProc, Name: name, Type: a, N: n}
}

// mod is a module A that uses B and C.
func mod(t tys, l ...api.Obj) api.Face {
	return api.Face{Name: "A", Key: 5, Uses: []api.Used{{Name: "B", Key: 7}, {Name: "C", Key: 9}}, Types: t, Objs: l}
}

// bare is a module without anything.
func bare() api.Face { return api.Face{Name: "A", Types: head()} }

// rich has types of every form, of its own and of others, with a name and
// without, and objects of every class.
func rich() api.Face {
	return mod(with(
		named(record("A", 0, 0, field("a", 8), shown("b", 1)), "A", "R"), // 7
		named(pointer(7), "A", "P"),
		named(record("B", 5, 0), "B", "R"),
		proc(8, variable(9), value(3)), // 10
		record("A", 1, 9),
		array(300, 11),
		open(3), // 13
		record("A", 2, 0, field("x", 12)),
		record("C", 63, 0),
		named(pointer(15), "C", "P"), // 16
		named(proc(0, value(13)), "C", "Q"),
		named(array(4, 14), "B", "T"),
	),
		constOf("i", api.FmInt, -200), constOf("b", api.FmBool, 1), constOf("c", api.FmChar, 255), constOf("s", api.FmSet, 1<<31),
		constOf("n", api.FmNil, 0), textOf("t", "text"),
		typeOf("P", 8), typeOf("I", 1), typeOf("O", 13), varOf("v", 12, 1), varOf("w", 2, 0), procOf("q", 10, 63), procOf("r", 17, 1),
	)
}

// full has as much as there may be of modules, types, objects, fields and
// parameters, and places of two bytes.
func full() api.Face {
	f := api.Face{Name: longest, Key: 1<<32 - 1, Types: head()}
	for i := range api.MaxMods {
		f.Uses = append(f.Uses, api.Used{Name: fmt.Sprint("M", i), Key: uint32(i) << 28})
	}
	for i := range api.MaxDesc {
		f.Types = append(f.Types, record(longest, i, 0))
	}
	many, all := record("M0", 0, 0), proc(0)
	for i := range api.MaxList {
		many.Fields = append(many.Fields, shown(fmt.Sprint("f", i), 7+i))
		all.Params = append(all.Params, variable(7+i))
	}
	f.Types = append(f.Types, many, all)
	for len(f.Types) < api.MaxTypes {
		f.Types = append(f.Types, array(api.MaxLen, 7+len(f.Types)%64))
	}
	for i := range api.MaxObjs {
		f.Objs = append(f.Objs, typeOf(fmt.Sprint("o", i), api.MaxTypes-1-i))
	}
	return f
}

// wide is a record of B or C, the i-th of both, with as many fields, each of 27
// bytes.
func wide(i, fields int) api.Ty {
	x := record([]string{"B", "C"}[i/api.MaxDesc], i%api.MaxDesc, 0)
	for j := range fields {
		x.Fields = append(x.Fields, field(longest[:api.MaxName-2]+fmt.Sprint(10+j), 1))
	}
	return x
}

// sized is a Good interface whose file has n bytes.
func sized(t *testing.T, n int) api.Face {
	t.Helper()
	f := mod(head())
	for i := range n/1640 - 1 {
		f.Types = append(f.Types, wide(i, 60))
	}
	// The last few are filled up field by field; a field has three bytes behind
	// its name's, a record eleven of its own.
	for left := n - len(modelFile(f)); left > 0; {
		last := &f.Types[len(f.Types)-1]
		count := len(last.Fields)
		if count == 60 {
			f.Types = append(f.Types, wide(len(f.Types)-7, 0))
			left -= 11
			continue
		}
		cost := min(left, 27)
		if left > 27 && left <= 54 {
			cost = left / 2
		}
		name := fmt.Sprintf("f%d", 10+count)
		last.Fields = append(last.Fields, field(name+strings.Repeat("x", cost-3-len(name)), 1))
		left -= cost
	}
	if got := len(modelFile(f)); got != n || !iface.Good(f) {
		t.Fatalf("the test's interface has %d bytes, not %d", got, n)
	}
	return f
}

func say(f api.Face) string {
	s := fmt.Sprintf("%.40q key %d uses %.200q, %d types", f.Name, f.Key, fmt.Sprint(f.Uses), len(f.Types))
	for a := 7; a < min(len(f.Types), 24); a++ {
		s += fmt.Sprintf(" %d %.160s", a, fmt.Sprint(f.Types[a]))
	}
	return s + fmt.Sprintf(", %d objects %.900s", len(f.Objs), fmt.Sprint(f.Objs))
}

// level is a list in which an empty list is nil.
func level[T any](l []T) []T { return append([]T(nil), l...) }

// flat is the interface in memory of its own, its empty lists nil.
func flat(f api.Face) api.Face {
	f.Uses, f.Types, f.Objs = level(f.Uses), level(f.Types), level(f.Objs)
	for a := range f.Types {
		f.Types[a].Fields, f.Types[a].Params = level(f.Types[a].Fields), level(f.Types[a].Params)
	}
	return f
}

// alike holds two interfaces against each other without a word of the program.
func alike(a, b api.Face) bool { return reflect.DeepEqual(flat(a), flat(b)) }

func mustEncode(t *testing.T, f api.Face, want string) {
	t.Helper()
	if s, err := Encode(f); s != want || err != api.OK {
		t.Errorf("P17.1: Encode of %s: %d bytes %.300q, %v, want %d bytes %.300q", say(f), len(s), s, err, len(want), want)
	}
}

func mustDecode(t *testing.T, s string, want api.Face) {
	t.Helper()
	if f, err := Decode(s); err != api.OK || !alike(f, want) {
		t.Errorf("P17.1: Decode of %.300q: %s, %v, want %s", s, say(f), err, say(want))
	}
}

func mustNotDecode(t *testing.T, s string) {
	t.Helper()
	if f, err := Decode(s); err != api.ErrSym || !reflect.DeepEqual(f, api.Face{}) {
		t.Errorf("P17.1: Decode of %.300q: %s, %v, want nothing, %v", s, say(f), err, api.ErrSym)
	}
}

func mustNotEncode(t *testing.T, f api.Face, want api.Errno) {
	t.Helper()
	if s, err := Encode(f); s != "" || err != want {
		t.Errorf("P17.1: Encode of %s: %.300q, %v, want nothing, %v", say(f), s, err, want)
	}
	if k, err := Key(f); k != 0 || err != want {
		t.Errorf("P17.1: Key of %s: %d, %v, want nothing, %v", say(f), k, err, want)
	}
}

func mustKey(t *testing.T, f api.Face, want uint32) {
	t.Helper()
	if k, err := Key(f); k != want || err != api.OK {
		t.Errorf("P17.1: Key of %s: %d, %v, want %d", say(f), k, err, want)
	}
}

// mustRoundTrip holds a Good interface against the model, there and back.
func mustRoundTrip(t *testing.T, f api.Face) {
	t.Helper()
	if !iface.Good(f) {
		t.Fatalf("no Good interface: %s", say(f))
	}
	s := modelFile(f)
	mustEncode(t, f, s)
	mustDecode(t, s, f)
	mustKey(t, f, modelKey(f))
}
