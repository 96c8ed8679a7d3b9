package check

import (
	"fmt"
	"reflect"
	"strings"
	"testing"

	"spinet/api"
	"spinet/iface"
	"spinet/types"
)

func with(l ...api.Ty) tys { return append(types.Basic(), l...) }

func mustShow(t *testing.T, s string, want api.Face, l ...api.Face) api.Face {
	t.Helper()
	got := mustPass(t, s, l...)
	want = keyed(t, want)
	if !iface.Same(got, want) {
		t.Errorf("P18.1: %.300s\nshows %+v\n  not %+v", s, got, want)
	}
	return got
}

func constOf(name string, form, n int) api.Obj {
	return api.Obj{Class: api.ClConst, Name: name, Type: form, Value: api.Value{Form: form, N: n}}
}

func objOf(class int, name string, a, n int) api.Obj {
	return api.Obj{Class: class, Name: name, Type: a, N: n}
}

// P18.1: what a module shows.
func TestFace(t *testing.T) {
	mustShow(t, "MODULE A; END A.", api.Face{Name: "A", Types: with()})
	mustShow(t, "MODULE A; CONST a = 1; TYPE T = RECORD END; VAR v: T; PROCEDURE P; END P; END A.", api.Face{Name: "A", Types: with()})
	mustShow(t, "MODULE A; CONST a* = 1; b = 2; c* = \"x\"; VAR u: CHAR; v*, w, x*: CHAR; PROCEDURE P; END P; PROCEDURE Q*; END Q; PROCEDURE R; END R; PROCEDURE S*(a: CHAR): SET; RETURN {} END S; END A.", api.Face{
		Name: "A",
		Types: with(
			api.Ty{Form: api.FmProc},
			api.Ty{Form: api.FmProc, Params: []api.TyParam{{Type: api.FmChar}}, Result: api.FmSet},
		),
		Objs: []api.Obj{
			constOf("a", api.FmInt, 1), {Class: api.ClConst, Name: "c", Type: api.FmText, Value: api.Value{Form: api.FmText, Text: "x"}},
			objOf(api.ClVar, "v", api.FmChar, 0), objOf(api.ClVar, "x", api.FmChar, 1), objOf(api.ClProc, "Q", 7, 1), objOf(api.ClProc, "S", 8, 2),
		},
	})
	// Names of types, and what has none.
	mustShow(t, `MODULE A; TYPE I* = INTEGER; T* = ARRAY 3 OF CHAR; U* = T; R = RECORD a*, b: T END; P* = POINTER TO R; F* = PROCEDURE (VAR a: R; b: ARRAY OF ARRAY OF P): P; VAR v*: ARRAY 2, 4 OF RECORD END; w*: POINTER TO R; END A.`, api.Face{
		Name: "A",
		Types: with(
			api.Ty{Form: api.FmArray, Mod: "A", Name: "T", Len: 3, Elem: api.FmChar},
			api.Ty{Form: api.FmPointer, Mod: "A", Name: "P", Elem: 9},
			api.Ty{Form: api.FmRecord, Mod: "A", Name: "R", Fields: []api.TyField{{Name: "a", Export: true, Type: 7}, {Name: "b", Type: 7}}},
			api.Ty{Form: api.FmProc, Mod: "A", Name: "F", Params: []api.TyParam{{Var: true, Type: 9}, {Type: 11}}, Result: 8},
			api.Ty{Form: api.FmOpen, Elem: 12},
			api.Ty{Form: api.FmOpen, Elem: 8},
			api.Ty{Form: api.FmArray, Len: 2, Elem: 14},
			api.Ty{Form: api.FmArray, Len: 4, Elem: 15},
			api.Ty{Form: api.FmRecord, Mod: "A", Desc: 1},
			api.Ty{Form: api.FmPointer, Elem: 9},
		),
		Objs: []api.Obj{objOf(api.ClType, "I", api.FmInt, 0), objOf(api.ClType, "T", 7, 0), objOf(api.ClType, "U", 7, 0), objOf(api.ClType, "P", 8, 0), objOf(api.ClType, "F", 10, 0), objOf(api.ClVar, "v", 13, 0), objOf(api.ClVar, "w", 16, 1)},
	})
	// A pointer ahead of its record, and records that are extended; the numbers go
	// by the objects, not by the text.
	mustShow(t, "MODULE A; TYPE P = POINTER TO R; Hid = RECORD END; B = RECORD n: P END; R = RECORD (B) m: P END; VAR x*: P; PROCEDURE Z*(q: P; VAR k: B); TYPE Loc = RECORD END; END Z; END A.", api.Face{
		Name: "A",
		Types: with(
			api.Ty{Form: api.FmPointer, Mod: "A", Name: "P", Elem: 8},
			api.Ty{Form: api.FmRecord, Mod: "A", Name: "R", Base: 9, Fields: []api.TyField{{Name: "m", Type: 7}}},
			api.Ty{Form: api.FmRecord, Mod: "A", Name: "B", Fields: []api.TyField{{Name: "n", Type: 7}}, Desc: 1},
			api.Ty{Form: api.FmProc, Params: []api.TyParam{{Type: 7}, {Var: true, Type: 9}}},
		),
		Objs: []api.Obj{objOf(api.ClVar, "x", 7, 0), objOf(api.ClProc, "Z", 10, 1)},
	})
}

// P18.1: imported types, each just once.
func TestImportedTypes(t *testing.T) {
	l := mustPass(t, "MODULE L; TYPE R* = RECORD a*: ARRAY 3 OF CHAR END; A* = ARRAY 2 OF R; P* = POINTER TO R; VAR v*: ARRAY 5 OF CHAR; w*: ARRAY 5 OF CHAR; END L.")
	m := mustPass(t, "MODULE M; IMPORT L; TYPE Q* = L.P; VAR r*: L.R; q*: L.A; z*: ARRAY 5 OF CHAR; END M.", l)
	if m.Objs[0] != objOf(api.ClType, "Q", 7, 0) || m.Types[7].Mod != "L" || m.Types[7].Name != "P" {
		t.Errorf("P18.1: another name of an imported type: %+v", m)
	}
	record := api.Ty{Form: api.FmRecord, Mod: "L", Name: "R", Fields: []api.TyField{{Name: "a", Export: true, Type: 8}}}
	mustShow(t, "MODULE A; IMPORT N := M, L; VAR a*: L.R; b*: N.Q; c*: L.P; d*: L.A; BEGIN a := N.r; d := N.q; b := c; c := b; a := d[1]; a := b^ END A.", api.Face{
		Name: "A", Uses: []api.Used{{Name: "M", Key: m.Key}, {Name: "L", Key: l.Key}},
		Types: with(
			record,
			api.Ty{Form: api.FmArray, Len: 3, Elem: api.FmChar},
			api.Ty{Form: api.FmPointer, Mod: "L", Name: "P", Elem: 7},
			api.Ty{Form: api.FmArray, Mod: "L", Name: "A", Len: 2, Elem: 7},
		),
		Objs: []api.Obj{objOf(api.ClVar, "a", 7, 0), objOf(api.ClVar, "b", 9, 1), objOf(api.ClVar, "c", 9, 2), objOf(api.ClVar, "d", 10, 3)},
	}, l, m)
	// Without L, what M shows of it is known all the same, and used.
	f := mustShow(t, "MODULE A; IMPORT M; TYPE X* = RECORD (M.K) n: CHAR END; END A.", api.Face{
		Name: "A", Uses: []api.Used{{Name: "M", Key: kept(t, l).Key}, {Name: "L", Key: l.Key}},
		Types: with(
			api.Ty{Form: api.FmRecord, Mod: "A", Name: "X", Base: 8, Fields: []api.TyField{{Name: "n", Type: api.FmChar}}},
			api.Ty{Form: api.FmRecord, Mod: "L", Name: "R", Fields: []api.TyField{{Name: "a", Export: true, Type: 9}}},
			api.Ty{Form: api.FmArray, Len: 3, Elem: api.FmChar},
		),
		Objs: []api.Obj{objOf(api.ClType, "X", 7, 0)},
	}, kept(t, l))
	mustPass(t, "MODULE B; IMPORT A, L; VAR x: A.X; r: L.R; BEGIN r := x; x.a := r.a END B.", f, l)
	// Types of one shape in two interfaces are the same without names; records not.
	mustPass(t, "MODULE A; IMPORT L, M; VAR v: ARRAY 5 OF CHAR; BEGIN v := L.v; v := M.z; v := L.w END A.", l, m)
	two := mustPass(t, "MODULE K; TYPE R* = RECORD a*: ARRAY 3 OF CHAR END; VAR r*: R; END K.")
	mustFault(t, api.ErrType, "MODULE A; IMPORT L, K; VAR r: L.R; BEGIN @r := K.r END A.", l, two)
	mustPass(t, "MODULE A; IMPORT L, K; VAR r: L.R; BEGIN r.a := K.r.a END A.", l, two)
}

func kept(t *testing.T, l api.Face) api.Face {
	return mustPass(t, "MODULE M; IMPORT L; TYPE K* = L.R; END M.", l)
}

// P18.1: how often types are put into the table is seen where it is full.
func TestJustOnce(t *testing.T) {
	l := mustPass(t, "MODULE L; TYPE R* = RECORD a*: ARRAY 3 OF CHAR END; N* = ARRAY 2 OF CHAR; VAR v*: ARRAY 5 OF CHAR; w*, y*: R; x*: N; END L.")
	m := mustPass(t, "MODULE M; IMPORT L; VAR w*: L.R; x*: L.N; z*: ARRAY 5 OF CHAR; k*: ARRAY 3 OF CHAR; END M.", l)
	for _, x := range []struct {
		arrays string // variables whose types are brought in
		n      int    // how many types that is
	}{
		{"L.v", 1}, {"L.w.a", 2}, {"L.x", 1}, {"L.w.a L.w.a L.y.a", 2}, {"L.x M.x L.x", 1}, {"L.w.a L.x L.v", 4}, {"M.w.a", 2}, {"L.w.a M.w.a", 2}, {"M.w.a L.w.a L.y.a", 2}, {"L.v M.z", 2}, {"L.v L.v M.z M.z", 2}, {"L.w.a M.w.a M.k", 3}, {"L.w.a M.w.a L.x M.x L.v M.z M.k", 6},
	} {
		stats := "ASSERT(LEN(" + strings.Join(strings.Fields(x.arrays), ") + LEN(") + ") > 0)"
		module := func(room int) string {
			return "MODULE A; IMPORT L, M; TYPE " + fillers(api.MaxTypes-basics-room) + " BEGIN " + stats + " END A."
		}
		mustPass(t, module(x.n), l, m)
		if _, fault := Check(parsed(t, module(x.n-1)), faces{l, m}); fault.Code != api.ErrMany {
			t.Errorf("P18.1: %s in a table with room for %d: %v", x.arrays, x.n-1, fault)
		}
	}
}

const basics = api.FmText + 1

// fillers are n types of one's own. An array of several lengths is as many.
func fillers(n int) string {
	const most = 30
	b := &strings.Builder{}
	for i := 0; n > 0; i++ {
		k := min(n, most)
		fmt.Fprintf(b, "Fill%d = ARRAY 1%s OF CHAR; ", i, strings.Repeat(", 1", k-1))
		n -= k
	}
	return b.String()
}

// P18.3
func TestWhatIsNotExported(t *testing.T) {
	l := libFace(t)
	// The parts of a module, and what may stand behind each.
	parts := []struct{ text, more string }{
		{"MODULE A; IMPORT L; CONST ", "k = 9; m = \"x\"; "},
		{"c* = 3; ", "n = c; "},
		{"TYPE ", "H = RECORD END; H2 = ARRAY 3 OF H; "},
		{"T* = RECORD a*: INTEGER; b: CHAR END; P* = POINTER TO T; ", "Q = POINTER TO T; T2 = RECORD (T) END; "},
		{"VAR ", "h: ARRAY 2 OF RECORD END; "},
		{"v*: T; p: P; w*: P; ", "last: L.P; "},
		{"PROCEDURE F*(VAR x: T): INTEGER; ", "CONST c = 5; TYPE T = RECORD END; VAR t: T; BEGIN x.a := c "},
		{"RETURN x.a END F; ", "PROCEDURE Hid(x: T): P; RETURN NIL END Hid; "},
		{"PROCEDURE G*; ", "BEGIN w := NIL; NEW(w) "},
		{"END G; ", "PROCEDURE Last; END Last; "},
		{"", "BEGIN v.a := c; WRITE(\"x\") "},
	}
	module := func(has func(i int) bool) string {
		s := ""
		for i, p := range parts {
			s += p.text
			if has(i) {
				s += p.more
			}
		}
		return s + "END A."
	}
	bare := module(func(int) bool { return false })
	want := mustPass(t, bare, l)
	for set := range 1 << len(parts) {
		// All of them one by one, together, and some others.
		if s := module(func(i int) bool { return set>>i&1 == 1 }); set%37 == 0 || set&(set-1) == 0 || set == 1<<len(parts)-1 {
			if got := mustPass(t, s, l); !iface.Same(got, want) {
				t.Errorf("P18.3: %s shows %+v", s, got)
			}
		}
	}
	// What is exported does.
	for _, x := range [][2]string{{"c* = 3", "c* = 4"}, {"c* = 3", "c = 3"}, {"a*: INTEGER", "a: INTEGER"}, {"b: CHAR", "b: SET"}, {"v*: T", "v: T"}, {"G*;", "G;"}, {"VAR x: T", "x: T"}, {"w*: P", "w: P"}, {"IMPORT L;", ""}} {
		if got := mustPass(t, strings.Replace(bare, x[0], x[1], 1), l); iface.Same(got, want) || got.Key == want.Key {
			t.Errorf("P18.1: %s in the place of %s is not seen", x[1], x[0])
		}
	}
}

// P18.1, P18.2: places count for nothing but the fault's.
func TestPlaces(t *testing.T) {
	l := libFace(t)
	sources := []string{body("E; i := a[2] + Fn(3); CASE i OF 1, 2 .. 3: END"), within("q(T1).h := {}"), body("i := 1 + TRUE"), body("i := zz"), body("IF b THEN a[5] := 1 END"), "MODULE A; IMPORT L; TYPE T = POINTER TO U; END A.", "MODULE A; VAR a: ARRAY 4096 OF INTEGER; b: CHAR; END A.", "MODULE A; PROCEDURE P(): CHAR; END P; END A.", "MODULE A; IMPORT Z; END A.", "MODULE A; TYPE T = RECORD a, a: CHAR END; END A."}
	for _, s := range sources {
		want, fault := Check(parsed(t, s), faces{l})
		for _, turn := range []func(int) int{func(at int) int { return at + 1000 }, func(at int) int { return -at - 1 }, func(at int) int { return at * 7 }, func(int) int { return 0 }, func(int) int { return -5 }, func(at int) int { return at ^ (1<<63 - 1) }} {
			m := parsed(t, s)
			moved(reflect.ValueOf(&m).Elem(), turn)
			got, moved := Check(m, faces{l})
			wanted := fault
			if fault.Code != api.OK {
				wanted.At = turn(fault.At)
			}
			if moved != wanted || !iface.Same(got, want) {
				t.Errorf("P18.2: %.80s: %v, not %v", s[max(0, len(s)-80):], moved, wanted)
			}
		}
	}
}

// moved turns all places of what v holds.
func moved(v reflect.Value, turn func(int) int) {
	switch v.Kind() {
	case reflect.Struct:
		for i := range v.NumField() {
			if v.Type().Field(i).Name == "At" {
				v.Field(i).SetInt(int64(turn(int(v.Field(i).Int()))))
			} else {
				moved(v.Field(i), turn)
			}
		}
	case reflect.Slice:
		for i := range v.Len() {
			moved(v.Index(i), turn)
		}
	}
}
