package check

import (
	"fmt"
	"reflect"
	"testing"

	"spinet/api"
	"spinet/iface"
)

// roomy gives each list of v memory of its own with spare room, and fills that
// with what is seen if it changes.
func roomy(v reflect.Value) {
	switch v.Kind() {
	case reflect.Struct:
		for i := range v.NumField() {
			roomy(v.Field(i))
		}
	case reflect.Slice:
		l := reflect.MakeSlice(v.Type(), v.Len()+3, v.Len()+3)
		reflect.Copy(l, v)
		for i := range v.Len() {
			roomy(l.Index(i))
		}
		for i := v.Len(); i < l.Len(); i++ {
			mark(l.Index(i))
		}
		v.Set(l.Slice(0, v.Len()))
	}
}

func mark(v reflect.Value) {
	switch v.Kind() {
	case reflect.Struct:
		for i := range v.NumField() {
			mark(v.Field(i))
		}
	case reflect.Int:
		v.SetInt(77)
	case reflect.Uint32:
		v.SetUint(77)
	case reflect.String:
		v.SetString("spare")
	}
}

// picture is all of v, spare room included.
func picture(v reflect.Value) string {
	switch v.Kind() {
	case reflect.Struct:
		s := "{"
		for i := range v.NumField() {
			s += picture(v.Field(i)) + " "
		}
		return s + "}"
	case reflect.Slice:
		s := "["
		for i, all := 0, v.Slice(0, v.Cap()); i < all.Len(); i++ {
			s += picture(all.Index(i)) + " "
		}
		return s + "]"
	}
	return fmt.Sprint(v.Interface())
}

// lists are where the lists of v lie, spare room included.
func lists(v reflect.Value, found map[uintptr]bool) (shared bool) {
	switch v.Kind() {
	case reflect.Struct:
		for i := range v.NumField() {
			shared = lists(v.Field(i), found) || shared
		}
	case reflect.Slice:
		all := v.Slice(0, v.Cap())
		for i := range all.Len() {
			at := all.Index(i).UnsafeAddr()
			shared = shared || found[at]
			found[at] = true
			// A struct lies where its first field does.
			for k := range all.Index(i).NumField() {
				shared = lists(all.Index(i).Field(k), found) || shared
			}
		}
	}
	return shared
}

// Rule 2.
func TestMemory(t *testing.T) {
	for _, s := range []string{body("i := a[2] + Fn(3); CASE i OF 1, 2 .. 3: END; L.G(x, t); p0(P1).h := {i .. 3, 4}"), within("q(T1).h := {}; lr.a := 1"), "MODULE A; IMPORT L; TYPE T* = RECORD (L.R) z*: L.P; f*: L.F; t*: L.T8 END; VAR h*: L.E; l*: POINTER TO T; BEGIN h := L.e; NEW(l) END A.", body("zz := 1"), body("i := L.zz"), lib} {
		m, l := parsed(t, s), faces{libFace(t), mustPass(t, "MODULE M; TYPE R* = RECORD a: CHAR END; PROCEDURE P*(x: R); END P; END M.")}
		roomy(reflect.ValueOf(&m).Elem())
		roomy(reflect.ValueOf(&l).Elem())
		before, given := picture(reflect.ValueOf(m)), picture(reflect.ValueOf(l))
		one, fault := Check(m, l)
		if picture(reflect.ValueOf(m)) != before || picture(reflect.ValueOf(l)) != given {
			t.Errorf("rule 2: an argument is changed: %.60s", s)
		}
		two, again := Check(m, l)
		if fault != again || !iface.Same(one, two) {
			t.Errorf("rule 4: %v, then %v", fault, again)
		}
		found := map[uintptr]bool{}
		lists(reflect.ValueOf(&l).Elem(), found)
		if lists(reflect.ValueOf(&one).Elem(), found) || lists(reflect.ValueOf(&two).Elem(), found) {
			t.Errorf("rule 2: an answer shares memory: %.60s", s)
		}
	}
}

// Lists that are nil and such as are empty are one.
func TestEmptyLists(t *testing.T) {
	m := parsed(t, "MODULE A; TYPE R* = RECORD END; PROCEDURE P*; END P; END A.")
	want, _ := Check(m, nil)
	m.Imports, m.Consts, m.Vars, m.Body = []api.Import{}, []api.Const{}, []api.Var{}, []api.Stat{}
	m.Types[0].Type.Fields, m.Types[0].Type.Base, m.Types[0].Type.Lens = []api.Field{}, []api.Texpr{}, []api.Expr{}
	m.Procs[0].Params, m.Procs[0].Result, m.Procs[0].Return = []api.Param{}, []api.Texpr{}, []api.Expr{}
	got, fault := Check(m, faces{})
	if fault != (api.Fault{}) || !iface.Same(got, want) {
		t.Errorf("rule 2: %v, %v", fault, got)
	}
}
