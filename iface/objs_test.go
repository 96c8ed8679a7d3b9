package iface

import (
	"fmt"
	"math"
	"testing"

	"spinet/api"
	"spinet/consts"
)

// mustTakeObj puts one object alone into the rich interface.
func mustTakeObj(t *testing.T, o api.Obj, want bool) {
	t.Helper()
	f := rich()
	f.Objs = []api.Obj{o}
	mustBe(t, isTable(t, f), want)
	// And behind others that are right.
	f = rich()
	f.Objs = append(f.Objs, o)
	mustBe(t, f, want)
}

// P16.1
func TestGoodObjs(t *testing.T) {
	many := func(n int) func(f *api.Face) {
		return func(f *api.Face) {
			for len(f.Objs) < n {
				f.Objs = append(f.Objs, varOf(fmt.Sprint("o", len(f.Objs)), 1, 0))
			}
		}
	}
	mustTakeChanges(t, []change{
		{"none", func(f *api.Face) { f.Objs = nil }, true},
		{"one less than MaxObjs", many(api.MaxObjs - 1), true},
		{"MaxObjs", many(api.MaxObjs), true},
		{"one more than MaxObjs", many(api.MaxObjs + 1), false},
		{"far more than MaxObjs", many(1000), false},
		{"a name twice", func(f *api.Face) { f.Objs[3].Name = f.Objs[2].Name }, false},
		{"a name twice, the first and the last", func(f *api.Face) { f.Objs[0].Name = f.Objs[len(f.Objs)-1].Name }, false},
		{"one object twice", func(f *api.Face) { f.Objs = append(f.Objs, f.Objs[6]) }, false},
		{"a name in other letters", func(f *api.Face) { f.Objs[3].Name = "I0" }, true},
		{"a name of the module", func(f *api.Face) { f.Objs[3].Name = "A" }, true},
		{"a name of a module that is used", func(f *api.Face) { f.Objs[3].Name = "B" }, true},
		{"a name of a type", func(f *api.Face) { f.Objs[3].Name = "R" }, true},
		{"the same number of two variables", func(f *api.Face) { f.Objs[10].N = f.Objs[9].N }, true},
		{"the same entry of two procedures", func(f *api.Face) { f.Objs[12].N = f.Objs[11].N }, true},
		{"another order", func(f *api.Face) { f.Objs[0], f.Objs[12] = f.Objs[12], f.Objs[0] }, true},
	})
}

// P16.1
func TestGoodConsts(t *testing.T) {
	values := []api.Value{
		{}, {Form: api.FmNil}, {Form: api.FmNil, N: 1}, {Form: api.FmText}, {Form: api.FmText, Text: "a"}, {Form: api.FmText, Text: "\""}, {Form: api.FmText, Text: "\x1f"}, {Form: api.FmText, N: 1},
		{Form: api.FmBool}, {Form: api.FmBool, N: 1}, {Form: api.FmBool, N: 2}, {Form: api.FmChar, N: 255}, {Form: api.FmChar, N: 256}, {Form: api.FmChar, N: -1},
		{Form: api.FmInt, N: math.MaxInt32}, {Form: api.FmInt, N: math.MinInt32}, {Form: api.FmInt, N: 1 << 31}, {Form: api.FmInt, N: math.MinInt32 - 1}, {Form: api.FmInt, Text: "a"},
		{Form: api.FmSet, N: math.MaxUint32}, {Form: api.FmSet, N: 1 << 32}, {Form: api.FmSet, N: -1}, {Form: api.FmArray}, {Form: -1}, {Form: math.MaxInt},
	}
	for _, v := range values {
		o := api.Obj{Class: api.ClConst, Name: "new", Type: v.Form, Value: v}
		mustTakeObj(t, o, consts.Good(v))
		for a := -1; a <= free+1; a++ {
			o.Type = a
			mustTakeObj(t, o, consts.Good(v) && a == v.Form)
		}
		for _, a := range outsides() {
			o.Type = a
			mustTakeObj(t, o, false)
		}
		o.Type = v.Form
		for _, n := range append(outsides(), 1, 2, 63, 64) {
			o.N = n
			mustTakeObj(t, o, false)
		}
	}
}

// P16.1
func TestGoodTypesAsObjects(t *testing.T) {
	for a := -1; a <= free; a++ {
		want := a >= 1 && a <= 4 || a >= 7 && a < free
		mustTakeObj(t, typeOf("new", a), want)
		for _, n := range append(outsides(), 1, 2, 63, 64) {
			o := typeOf("new", a)
			o.N = n
			mustTakeObj(t, o, false)
		}
	}
	for _, a := range outsides() {
		mustTakeObj(t, typeOf("new", a), false)
	}
}

// P16.1
func TestGoodVars(t *testing.T) {
	numbers := append(outsides(), 0, 1, api.MaxList-1, api.MaxList, api.MaxList+1)
	for a := -1; a <= free; a++ {
		isVar := a >= 1 && a <= 4 || a >= 7 && a < free && a != 13
		for _, n := range numbers {
			mustTakeObj(t, varOf("new", a, n), isVar && n >= 0 && n < 64)
		}
	}
	for _, a := range outsides() {
		mustTakeObj(t, varOf("new", a, 0), false)
	}
}

// P16.1
func TestGoodProcs(t *testing.T) {
	numbers := append(outsides(), 0, 1, 2, api.MaxEntry-1, api.MaxEntry, api.MaxEntry+1)
	for a := -1; a <= free; a++ {
		isProc := a == 10 || a == 17
		for _, n := range numbers {
			mustTakeObj(t, procOf("new", a, n), isProc && n >= 1 && n < 64)
		}
	}
	for _, a := range outsides() {
		mustTakeObj(t, procOf("new", a, 1), false)
	}
}

// P16.1: what a class does not have is zero.
func TestGoodObjsHaveNoMore(t *testing.T) {
	for _, o := range []api.Obj{typeOf("new", 1), typeOf("new", 8), varOf("new", 1, 1), varOf("new", 12, 0), procOf("new", 10, 1), procOf("new", 17, 63)} {
		mustTakeObj(t, o, true)
		for _, v := range []api.Value{{Form: api.FmInt}, {Form: api.FmInt, N: 1}, {N: 1}, {N: -1}, {Text: "a"}, {Form: o.Type}, {Form: api.FmNil}, {Form: api.FmText, Text: "a"}, {Form: -1}} {
			o.Value = v
			mustTakeObj(t, o, false)
		}
	}
}

// P16.1: a class that there is none of.
func TestGoodClasses(t *testing.T) {
	objs := []api.Obj{constOf("new", 1, 1), typeOf("new", 1), typeOf("new", 17), varOf("new", 1, 1), procOf("new", 10, 1), {Name: "new"}, {Name: "new", Type: 1}}
	for _, class := range append(outsides(), 0, 5, 6, 7, 1<<32+api.ClVar, -api.ClVar) {
		for _, o := range objs {
			o.Class = class
			mustTakeObj(t, o, false)
		}
	}
	// Each object is right as it is, and as another class it is only where its
	// fields are that one's.
	want := map[int][]int{0: {1}, 1: {2, 3}, 2: {2, 3}, 3: {3}, 4: {3, 4}, 5: {}, 6: {2, 3}}
	for i, o := range objs {
		for class := api.ClConst; class <= api.ClProc; class++ {
			ok := false
			for _, c := range want[i] {
				ok = ok || c == class
			}
			o.Class = class
			mustTakeObj(t, o, ok)
		}
	}
}

// P16.1
func TestFind(t *testing.T) {
	f := rich()
	for _, o := range f.Objs {
		mustFind(t, f, o.Name, o, true)
	}
	for _, name := range []string{"", "A", "B", "R", "T", "p", "vv", "a", "x", "v ", " v", "v\x00", tooLong, "\xff"} {
		mustFind(t, f, name, api.Obj{}, false)
		mustFind(t, api.Face{}, name, api.Obj{}, false)
	}
	// Whether the interface is Good is not asked.
	bad := api.Face{Objs: []api.Obj{varOf("v", 1, 1), procOf("v", -5, 2), {Class: 99, Name: tooLong, N: -1}, constOf("", 1, 5), {}, varOf("w", 7, 7)}}
	mustFind(t, bad, "v", bad.Objs[0], true)
	mustFind(t, bad, "w", bad.Objs[5], true)
	mustFind(t, bad, tooLong, bad.Objs[2], true)
	mustFind(t, bad, "", bad.Objs[3], true)
	bad.Objs = bad.Objs[4:]
	mustFind(t, bad, "", api.Obj{}, true)
	mustFind(t, bad, "v", api.Obj{}, false)
	for len(bad.Objs) < 5000 {
		bad.Objs = append(bad.Objs, varOf(fmt.Sprint("x", len(bad.Objs)), 1, len(bad.Objs)))
	}
	mustFind(t, bad, "x4999", varOf("x4999", 1, 4999), true)
}
