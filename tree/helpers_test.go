package tree

import (
	"reflect"
	"slices"
	"testing"

	"spinet/api"
)

func isZero(m api.Module) bool {
	return reflect.DeepEqual(m, api.Module{})
}

func mustParse(t testing.TB, s string) api.Module {
	t.Helper()
	m, at, err := Parse(s)
	if err != api.OK || at != 0 {
		t.Fatalf("%.300q: %d, %v", s, at, err)
	}
	return m
}

func mustRefuse(t testing.TB, s string, at int, err api.Errno) {
	t.Helper()
	m, place, e := Parse(s)
	if e != err || place != at || !isZero(m) {
		t.Errorf("%.300q: %d, %v, want %d, %v", s, place, e, at, err)
	}
}

// equal holds things against each other, field by field; nil and empty lists
// are one. With places aside, fields that are called At don't count.
func equal(a, b reflect.Value, placesAside bool) bool {
	switch a.Kind() {
	case reflect.Struct:
		for i := range a.NumField() {
			if placesAside && a.Type().Field(i).Name == "At" {
				continue
			}
			if !equal(a.Field(i), b.Field(i), placesAside) {
				return false
			}
		}
		return true
	case reflect.Slice:
		if a.Len() != b.Len() {
			return false
		}
		for i := range a.Len() {
			if !equal(a.Index(i), b.Index(i), placesAside) {
				return false
			}
		}
		return true
	}
	return a.Interface() == b.Interface()
}

func alike[T any](a, b T) bool {
	return equal(reflect.ValueOf(a), reflect.ValueOf(b), true)
}

func exactly[T any](a, b T) bool {
	return equal(reflect.ValueOf(a), reflect.ValueOf(b), false)
}

// visit comes to every part of a thing, the outer ones first.
func visit(v reflect.Value, see func(reflect.Value)) {
	see(v)
	switch v.Kind() {
	case reflect.Struct:
		for i := range v.NumField() {
			visit(v.Field(i), see)
		}
	case reflect.Slice:
		for i := range v.Len() {
			visit(v.Index(i), see)
		}
	}
}

func nodesOf(m api.Module) int {
	n := 0
	visit(reflect.ValueOf(m), func(v reflect.Value) {
		switch v.Interface().(type) {
		case api.Expr, api.Stat, api.Texpr:
			n++
		}
	})
	return n
}

// cloned shares no memory with what it is a copy of.
func cloned[T any](x T) T {
	v := reflect.New(reflect.TypeOf(x)).Elem()
	cloneInto(v, reflect.ValueOf(x))
	return v.Interface().(T)
}

func cloneInto(to, from reflect.Value) {
	switch from.Kind() {
	case reflect.Struct:
		for i := range from.NumField() {
			cloneInto(to.Field(i), from.Field(i))
		}
	case reflect.Slice:
		if from.Len() == 0 {
			return
		}
		to.Set(reflect.MakeSlice(from.Type(), from.Len(), from.Len()))
		for i := range from.Len() {
			cloneInto(to.Index(i), from.Index(i))
		}
	default:
		to.Set(from)
	}
}

// span is the memory of a list, spare room and all.
type span struct {
	from, to uintptr
}

func spansOf(modules ...api.Module) []span {
	var l []span
	for _, m := range modules {
		visit(reflect.ValueOf(m), func(v reflect.Value) {
			if v.Kind() == reflect.Slice && v.Cap() > 0 {
				from := v.Pointer()
				l = append(l, span{from: from, to: from + uintptr(v.Cap())*v.Type().Elem().Size()})
			}
		})
	}
	return l
}

func mustShareNothing(t *testing.T, what string, modules ...api.Module) {
	t.Helper()
	l := spansOf(modules...)
	slices.SortFunc(l, func(a, b span) int {
		if a.from < b.from {
			return -1
		}
		return 1
	})
	for i := 1; i < len(l); i++ {
		if l[i].from < l[i-1].to {
			t.Fatalf("%.200q: two lists share memory", what)
		}
	}
}
