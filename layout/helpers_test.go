package layout

import (
	"fmt"
	"math"
	"slices"
	"testing"

	"spinet/api"
	"spinet/types"
)

type tys = []api.Ty

const (
	basics   = api.FmText + 1
	tooGreat = api.MaxBytes + 1
)

func array(n, elem int) api.Ty { return api.Ty{Form: api.FmArray, Len: n, Elem: elem} }
func open(elem int) api.Ty     { return api.Ty{Form: api.FmOpen, Elem: elem} }
func pointer(elem int) api.Ty  { return api.Ty{Form: api.FmPointer, Elem: elem} }

// record is one of module A without a number.
func record(base int, l ...api.TyField) api.Ty {
	return api.Ty{Form: api.FmRecord, Mod: "A", Base: base, Fields: l, Desc: -1}
}

func proc(result int, l ...api.TyParam) api.Ty {
	return api.Ty{Form: api.FmProc, Params: l, Result: result}
}

func field(name string, a int) api.TyField { return api.TyField{Name: name, Type: a} }

// fields are of these types, called a, b and so on, from the letter first on.
func fields(first byte, l ...int) []api.TyField {
	var out []api.TyField
	for i, a := range l {
		out = append(out, field(string(rune(int(first)+i)), a))
	}
	return out
}

// many are n fields of one type, called by the letter and their numbers.
func many(letter string, n, a int) []api.TyField {
	var out []api.TyField
	for i := range n {
		out = append(out, field(fmt.Sprint(letter, i), a))
	}
	return out
}

// head is the seven, written out.
func head() tys {
	return tys{{Form: 0}, {Form: 1}, {Form: 2}, {Form: 3}, {Form: 4}, {Form: 5}, {Form: 6}}
}

func with(l ...api.Ty) tys { return append(head(), l...) }

// zoo has a type of each form, at the form's place: what is put behind it stands
// from zooEnd on. The array has 8 bytes, the record 12.
func zoo(l ...api.Ty) tys {
	a := with(array(5, api.FmChar), open(api.FmInt), record(0, fields('p', 3, 1, 2)...), pointer(api.FmRecord), proc(0))
	return append(a, l...)
}

const zooEnd = api.FmProc + 1

// zooSizes are the sizes of the zoo's types, by their forms.
func zooSizes() []int { return []int{0, 4, 1, 1, 4, 0, 0, 8, 0, 12, 4, 4} }

// elements are the forms that arrays and records are made of.
func elements() []int {
	return []int{api.FmInt, api.FmBool, api.FmChar, api.FmSet, api.FmArray, api.FmRecord, api.FmPointer, api.FmProc}
}

// bases is a chain of n records that extend each other, each with fields of the
// same types, called by the chain's step.
func bases(n int, l ...int) tys {
	out := head()
	for i := range n {
		x := record(0)
		if i > 0 {
			x.Base = len(out) - 1
		}
		for k, a := range l {
			x.Fields = append(x.Fields, field(fmt.Sprintf("f%dx%d", i, k), a))
		}
		out = append(out, x)
	}
	return out
}

func outsides(l tys) []int {
	return []int{-1, -2, -7, math.MinInt, len(l), len(l) + 1, api.MaxTypes, api.MaxTypes + 1, 1 << 31, 1 << 32, 1<<32 + 1, 1<<32 + api.FmRecord, math.MaxInt}
}

// short is a thing in not too many bytes.
func short(x any) string {
	return fmt.Sprintf("%.120s", fmt.Sprint(x))
}

func say(l tys) string {
	s := fmt.Sprintf("%d types", len(l))
	for a := basics; a < min(len(l), 24); a++ {
		s += fmt.Sprintf(" %d %s", a, short(l[a]))
	}
	return s
}

func isGood(t *testing.T, l tys) tys {
	t.Helper()
	if !types.Good(l) {
		t.Fatalf("no Good table: %s", say(l))
	}
	return l
}

func mustSize(t *testing.T, l tys, a, want int) {
	t.Helper()
	if got := Size(l, a); got != want {
		t.Errorf("P14.1: Size(%d) of %s: %d, want %d", a, say(l), got, want)
	}
}

// mustSizes are those of the types from the place on.
func mustSizes(t *testing.T, l tys, from int, want ...int) {
	t.Helper()
	for i, n := range want {
		mustSize(t, l, from+i, n)
	}
}

func mustLie(t *testing.T, l tys, a int, name string, at, typ int) {
	t.Helper()
	if gotAt, gotType, ok := Offset(l, a, name); gotAt != at || gotType != typ || !ok {
		t.Errorf("P14.1: Offset(%d, %q) of %s: %d, %d, %v, want %d, %d", a, name, say(l), gotAt, gotType, ok, at, typ)
	}
}

func mustNotLie(t *testing.T, l tys, a int, name string) {
	t.Helper()
	if at, typ, ok := Offset(l, a, name); at != 0 || typ != 0 || ok {
		t.Errorf("P14.1: Offset(%d, %q) of %s: %d, %d, %v, want none", a, name, say(l), at, typ, ok)
	}
}

func mustVars(t *testing.T, l tys, given, want []int, size int) {
	t.Helper()
	if at, n := Vars(l, given); !slices.Equal(at, want) || n != size {
		t.Errorf("P14.1: Vars of %s: %s, %d, want %s, %d", short(given), short(at), n, short(want), size)
	}
}

func mustHaveNoVars(t *testing.T, l tys, given []int) {
	t.Helper()
	mustVars(t, l, given, nil, 0)
}
