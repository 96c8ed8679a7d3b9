package types

import (
	"fmt"
	"math"
	"strings"
	"testing"

	"spinet/api"
)

type tys = []api.Ty

var (
	longest = strings.Repeat("n", api.MaxName)
	tooLong = longest + "n"
)

func array(n, elem int) api.Ty { return api.Ty{Form: api.FmArray, Len: n, Elem: elem} }
func open(elem int) api.Ty     { return api.Ty{Form: api.FmOpen, Elem: elem} }
func pointer(elem int) api.Ty  { return api.Ty{Form: api.FmPointer, Elem: elem} }

// record is one of module A without a number.
func record(base int, l ...api.TyField) api.Ty {
	return api.Ty{Form: api.FmRecord, Mod: "A", Base: base, Fields: l, Desc: -1}
}

func proc(result int, l ...api.TyParam) api.Ty {
	return api.Ty{Form: api.FmProc, Params: l, Result: result}
}

func field(name string, a int) api.TyField { return api.TyField{Name: name, Type: a} }
func value(a int) api.TyParam              { return api.TyParam{Type: a} }
func variable(a int) api.TyParam           { return api.TyParam{Var: true, Type: a} }

func named(x api.Ty, mod, name string) api.Ty {
	x.Mod, x.Name = mod, name
	return x
}

func numbered(x api.Ty, desc int) api.Ty {
	x.Desc = desc
	return x
}

// head is the seven, written out: Basic is not asked.
func head() tys {
	return tys{{Form: 0}, {Form: 1}, {Form: 2}, {Form: 3}, {Form: 4}, {Form: 5}, {Form: 6}}
}

func with(l ...api.Ty) tys { return append(head(), l...) }

// zoo has a type of each form, at the form's place: what is put behind it stands
// from zooEnd on.
func zoo(l ...api.Ty) tys {
	return append(with(array(2, api.FmChar), open(api.FmInt), record(0), pointer(api.FmRecord), proc(0)), l...)
}

const zooEnd = api.FmProc + 1

// outsides are no places of any table.
func outsides() []int {
	return []int{-1, -2, -7, api.MaxTypes, api.MaxTypes + 1, 1 << 31, 1 << 32, 1<<32 + 1, 1<<32 + api.FmRecord, math.MaxInt, math.MinInt}
}

// sayTy is a type in bytes that can be printed, and not too many.
func sayTy(x api.Ty) string {
	s := fmt.Sprintf("{%d %.30q.%.30q len %d elem %d base %d desc %d (", x.Form, x.Mod, x.Name, x.Len, x.Elem, x.Base, x.Desc)
	for _, f := range x.Fields[:min(len(x.Fields), 8)] {
		s += fmt.Sprintf(" %.30q %d", f.Name, f.Type)
	}
	s += " ) ("
	for _, p := range x.Params[:min(len(x.Params), 8)] {
		s += fmt.Sprintf(" %v %d", p.Var, p.Type)
	}
	return s + fmt.Sprintf(" ): %d}", x.Result)
}

func say(t tys) string {
	s := fmt.Sprintf("%d types", len(t))
	for a := basics; a < min(len(t), 24); a++ {
		s += fmt.Sprintf(" %d %s", a, sayTy(t[a]))
	}
	return s
}

func mustGood(t *testing.T, l tys, want bool) {
	t.Helper()
	if got := Good(l); got != want {
		t.Errorf("P13.1: Good of %s: %v, want %v", say(l), got, want)
	}
}

// mustSame wants the answer the other way round, too.
func mustSame(t *testing.T, l tys, a, b int, want bool) {
	t.Helper()
	if there, back := Same(l, a, b), Same(l, b, a); there != want || back != want {
		t.Errorf("P13.2: Same(%d, %d) of %s: %v, %v, want %v", a, b, say(l), there, back, want)
	}
}

func mustExtend(t *testing.T, l tys, a, b int, want bool) {
	t.Helper()
	if got := Extends(l, a, b); got != want {
		t.Errorf("P13.3: Extends(%d, %d) of %s: %v, want %v", a, b, say(l), got, want)
	}
}

func mustLevel(t *testing.T, l tys, a, want int) {
	t.Helper()
	if got := Level(l, a); got != want {
		t.Errorf("P13.3: Level(%d) of %s: %d, want %d", a, say(l), got, want)
	}
}

func mustAssign(t *testing.T, l tys, from, to int, want bool) {
	t.Helper()
	if got := Assign(l, from, to); got != want {
		t.Errorf("P13.4: Assign(%d, %d) of %s: %v, want %v", from, to, say(l), got, want)
	}
}

func mustFit(t *testing.T, l tys, from int, p api.TyParam, want bool) {
	t.Helper()
	if got := Fits(l, from, p); got != want {
		t.Errorf("P13.5: Fits(%d, %v) of %s: %v, want %v", from, p, say(l), got, want)
	}
}

// isGood keeps a test's table from answering false for another reason than the
// one that is tested.
func isGood(t *testing.T, l tys) tys {
	t.Helper()
	if !Good(l) {
		t.Fatalf("no Good table: %s", say(l))
	}
	return l
}
