package iface

import (
	"fmt"
	"reflect"
	"testing"

	"spinet/api"
)

// eachTurn turns each number, text and truth in v, and each list's length, alone,
// and has a look at it; then v is as it was.
func eachTurn(v reflect.Value, path string, look func(path string)) {
	old := reflect.New(v.Type()).Elem()
	old.Set(v)
	try := func(what string) {
		look(path + what)
		v.Set(old)
	}
	switch v.Kind() {
	case reflect.Struct:
		for i := range v.NumField() {
			eachTurn(v.Field(i), path+"."+v.Type().Field(i).Name, look)
		}
	case reflect.Slice:
		for i := range v.Len() {
			eachTurn(v.Index(i), fmt.Sprint(path, "[", i, "]"), look)
		}
		v.Set(reflect.Append(v, reflect.Zero(v.Type().Elem())))
		try(" longer")
		if v.Len() > 0 {
			v.Set(v.Slice(0, v.Len()-1))
			try(" shorter")
			v.Set(v.Slice(1, v.Len()))
			try(" without the first")
		}
	case reflect.String:
		v.SetString(v.String() + "x")
		try("")
		v.SetString("")
		if old.String() != "" {
			try("")
		}
	case reflect.Bool:
		v.SetBool(!v.Bool())
		try("")
	case reflect.Uint32:
		v.SetUint(v.Uint() ^ 1<<31)
		try("")
	default:
		for _, n := range []int64{v.Int() + 1, v.Int() - 1, v.Int() + 1<<32, -v.Int() - 1} {
			v.SetInt(n)
			try(fmt.Sprint(" ", n))
		}
	}
}

// manyParts has each list of an interface with entries in it, and is not Good.
func manyParts() api.Face {
	x := api.Ty{Form: 9, Mod: "A", Name: "T", Len: 3, Elem: 4, Base: 5, Fields: []api.TyField{{Name: "a", Export: true, Type: 1}, field("b", 2)}, Params: []api.TyParam{variable(3), value(4)}, Result: 6, Desc: 7}
	o := api.Obj{Class: 1, Name: "o", Type: 2, Value: api.Value{Form: 3, N: 4, Text: "five"}, N: 6}
	return mod(tys{x, x, {}}, o, o, api.Obj{})
}

// P16.1: what differs in one field alone, at any depth.
func TestSameOfOneFieldTurned(t *testing.T) {
	for _, f := range []api.Face{rich(), manyParts(), {}} {
		turned := flat(f)
		mustSame(t, f, turned, true)
		mustSame(t, f, f, true)
		n := 0
		eachTurn(reflect.ValueOf(&turned).Elem(), "", func(path string) {
			n++
			if Same(f, turned) || Same(turned, f) {
				t.Errorf("P16.1: Same with another %s", path)
			}
		})
		mustSame(t, f, turned, true)
		if n < 5 {
			t.Errorf("%d turns", n)
		}
	}
}

// P16.1: nil and empty lists are alike, at each depth.
func TestSameOfEmptyLists(t *testing.T) {
	empty := api.Face{Uses: []api.Used{}, Types: tys{}, Objs: []api.Obj{}}
	mustSame(t, api.Face{}, empty, true)
	mustSame(t, empty, empty, true)
	one, two := mod(with(array(2, 1), record("A", 0, 0), proc(0))), mod(with(array(2, 1), record("A", 0, 0), proc(0)))
	for a := range two.Types {
		two.Types[a].Fields, two.Types[a].Params = []api.TyField{}, make([]api.TyParam, 0, 4)
	}
	two.Objs = make([]api.Obj, 0, 9)
	mustSame(t, one, two, true)
	two.Types[9].Fields = []api.TyField{{}}
	mustSame(t, one, two, false)
	two.Types[9].Fields, two.Types[9].Params = nil, []api.TyParam{{}}
	mustSame(t, one, two, false)
}

// P16.1: the order of entries counts.
func TestSameOfAnotherOrder(t *testing.T) {
	for i, turn := range []func(f *api.Face){
		func(f *api.Face) { f.Uses[0], f.Uses[1] = f.Uses[1], f.Uses[0] },
		func(f *api.Face) { f.Types[8], f.Types[16] = f.Types[16], f.Types[8] },
		func(f *api.Face) { f.Objs[0], f.Objs[1] = f.Objs[1], f.Objs[0] },
		func(f *api.Face) { l := f.Types[7].Fields; l[0], l[1] = l[1], l[0] },
		func(f *api.Face) { l := f.Types[10].Params; l[0], l[1] = l[1], l[0] },
	} {
		f := rich()
		turn(&f)
		if Same(f, rich()) || Same(rich(), f) {
			t.Errorf("P16.1: Same in another order, %d", i)
		}
		turn(&f)
		mustSame(t, f, rich(), true)
	}
}
