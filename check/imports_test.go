package check

import (
	"fmt"
	"slices"
	"strings"
	"testing"

	"spinet/api"
)

// P18.1
func TestImports(t *testing.T) {
	lf := libFace(t)
	other := mustPass(t, "MODULE M; END M.")
	for _, x := range []faulty{
		{"MODULE A; IMPORT L; END A.", 0}, {"MODULE A; IMPORT X := L; END A.", 0}, {"MODULE A; IMPORT L, M; END A.", 0}, {"MODULE A; IMPORT M := L, L := M; VAR a: M.R; END A.", 0}, {"MODULE A; IMPORT A := L; END A.", 0},
		{"MODULE A; IMPORT @A; END A.", api.ErrName}, {"MODULE A; IMPORT @X := A; END A.", api.ErrName}, {"MODULE A; IMPORT L, @L; END A.", api.ErrName}, {"MODULE A; IMPORT L, @X := L; END A.", api.ErrName}, {"MODULE A; IMPORT L, M, @X := L; END A.", api.ErrName},
		{"MODULE A; IMPORT @Z; END A.", api.ErrMiss}, {"MODULE A; IMPORT L, @Z; END A.", api.ErrMiss}, {"MODULE A; IMPORT @L := Z; END A.", api.ErrMiss}, {"MODULE A; IMPORT @l; END A.", api.ErrMiss}, {"MODULE A; IMPORT L, @L := Z; END A.", api.ErrMiss}, {"MODULE A; IMPORT @Z; CONST c = d; END A.", api.ErrMiss},
		{"MODULE A; IMPORT L, @L := M; END A.", api.ErrTwice}, {"MODULE A; IMPORT X := L, @X := M; END A.", api.ErrTwice}, {"MODULE A; IMPORT L, @L := L; END A.", api.ErrName}, {"MODULE L; IMPORT @L; END L.", api.ErrName},
		{"MODULE A; IMPORT L; VAR a: M.R; END A.", api.ErrName},
	} {
		s := x.s
		if x.code != 0 && !strings.Contains(s, "@") {
			s = strings.Replace(s, "M.R", "@M.R", 1)
		}
		mustDo(t, x.code, s, lf, other)
	}
}

// P18.1: of two interfaces of one name the first counts.
func TestFirstOfTwo(t *testing.T) {
	one, two := mustPass(t, "MODULE L; CONST k* = 1; END L."), mustPass(t, "MODULE L; CONST q* = 1; END L.")
	mustPass(t, "MODULE A; IMPORT L; CONST c = L.k; END A.", one, two)
	mustPass(t, "MODULE A; IMPORT L; CONST c = L.q; END A.", two, one)
	mustFault(t, api.ErrName, "MODULE A; IMPORT L; CONST c = @L.q; END A.", one, two)
	f := mustPass(t, "MODULE A; IMPORT L; END A.", two, one)
	if f.Uses[0].Key != two.Key {
		t.Errorf("P18.1: the key of another one: %v", f.Uses)
	}
}

// P18.1
func TestLoops(t *testing.T) {
	a := mustPass(t, "MODULE A; END A.")
	b := mustPass(t, "MODULE B; IMPORT A; END B.", a)
	c := mustPass(t, "MODULE C; IMPORT B; END C.", a, b)
	if want := []api.Used{{Name: "B", Key: b.Key}, {Name: "A", Key: a.Key}}; !slices.Equal(c.Uses, want) {
		t.Errorf("P18.1: C uses %v, not %v", c.Uses, want)
	}
	mustFault(t, api.ErrLoop, "MODULE A; IMPORT @B; END A.", a, b, c)
	mustFault(t, api.ErrLoop, "MODULE A; IMPORT @C; END A.", a, b, c)
	mustFault(t, api.ErrLoop, "MODULE A; IMPORT @X := C; END A.", c)
	mustFault(t, api.ErrLoop, "MODULE B; IMPORT A, @C; END B.", a, b, c)
	mustPass(t, "MODULE C; IMPORT B; END C.", a, b, c)
	// Ahead of it the name, behind it the keys.
	d := mustPass(t, "MODULE D; END D.")
	mustFault(t, api.ErrTwice, "MODULE A; IMPORT B := D, @B; END A.", b, d)
	mustFault(t, api.ErrLoop, "MODULE A; IMPORT @B; END A.", withKeys(t, b, "A", 1))
	two := withKeys(t, mustPass(t, "MODULE E; IMPORT D, A; END E.", a, d), "D", 5)
	mustFault(t, api.ErrLoop, "MODULE A; IMPORT D, @E; END A.", d, two)
	mustFault(t, api.ErrKey, "MODULE F; IMPORT D, @E; END F.", d, two)
}

// withKeys is f with another key of what it uses, and with its own key right.
func withKeys(t *testing.T, f api.Face, name string, key uint32) api.Face {
	t.Helper()
	f.Uses = slices.Clone(f.Uses)
	for i := range f.Uses {
		if f.Uses[i].Name == name {
			f.Uses[i].Key = key
		}
	}
	return keyed(t, f)
}

// P18.1: the later one of two imports with different keys.
func TestKeys(t *testing.T) {
	a := mustPass(t, "MODULE A; END A.")
	b := mustPass(t, "MODULE B; IMPORT A; END B.", a)
	c := mustPass(t, "MODULE C; IMPORT A; END C.", a)
	stale := withKeys(t, c, "A", a.Key+1)
	for _, x := range []struct {
		s    string
		code api.Errno
		l    faces
	}{
		{"MODULE D; IMPORT A, B, C; END D.", 0, faces{a, b, c}}, {"MODULE D; IMPORT C, A, B; END D.", 0, faces{a, b, c}}, {"MODULE D; IMPORT B, C; END D.", 0, faces{b, c}},
		{"MODULE D; IMPORT A, @C; END D.", api.ErrKey, faces{a, b, stale}}, {"MODULE D; IMPORT C, @A; END D.", api.ErrKey, faces{a, b, stale}}, {"MODULE D; IMPORT B, @C; END D.", api.ErrKey, faces{b, stale}}, {"MODULE D; IMPORT C, @B; END D.", api.ErrKey, faces{b, stale}}, {"MODULE D; IMPORT A, B, @C; END D.", api.ErrKey, faces{a, b, stale}}, {"MODULE D; IMPORT C, @B, A; END D.", api.ErrKey, faces{a, b, stale}},
		// What is given, but not imported, is not asked.
		{"MODULE D; IMPORT C; END D.", 0, faces{a, b, stale}}, {"MODULE D; IMPORT B; END D.", 0, faces{a, b, stale}}, {"MODULE D; IMPORT C, @X := A; VAR v: A; END D.", api.ErrKey, faces{a, b, stale}},
	} {
		mustDo(t, x.code, x.s, x.l...)
	}
}

// P18.1: more than MaxMods in Uses.
func TestManyUses(t *testing.T) {
	var l faces
	for i := range 12 {
		l = append(l, mustPass(t, fmt.Sprintf("MODULE M%d; END M%d.", i, i)))
	}
	names := func(from, to int) string {
		var l []string
		for i := from; i < to; i++ {
			l = append(l, fmt.Sprint("M", i))
		}
		return strings.Join(l, ", ")
	}
	x := mustPass(t, "MODULE X; IMPORT "+names(0, 8)+"; END X.", l...)
	y := mustPass(t, "MODULE Y; IMPORT "+names(0, 12)+"; END Y.", l...)
	more := func(f api.Face, name string, n int) api.Face {
		f.Name = name
		f.Uses = slices.Clone(f.Uses)
		for i := range n {
			f.Uses = append(f.Uses, api.Used{Name: fmt.Sprint("N", i)})
		}
		return keyed(t, f)
	}
	given := faces{x, y, more(y, "Z", 3), more(y, "W", 4), l[0], l[11]}
	mustPass(t, "MODULE A; IMPORT X, Y; END A.", given...)
	f := mustPass(t, "MODULE A; IMPORT Z; END A.", given...)
	if len(f.Uses) != api.MaxMods {
		t.Errorf("P18.1: %d Uses", len(f.Uses))
	}
	mustPass(t, "MODULE A; IMPORT Z, M0, M11; END A.", given...)
	mustPass(t, "MODULE A; IMPORT M0, Z; END A.", given...)
	mustFault(t, api.ErrMany, "MODULE A; IMPORT @W; END A.", given...)
	mustFault(t, api.ErrMany, "MODULE A; IMPORT Z, @X; END A.", given...)
	mustFault(t, api.ErrMany, "MODULE A; IMPORT X, @Z; CONST c = z; END A.", given...)
	mustFault(t, api.ErrMany, "MODULE A; IMPORT X, Y, M0, @Z, M11; END A.", given...)
}

// P18.1: what there is of imported things.
func TestImported(t *testing.T) {
	eachIn(t, body, []faulty{
		{"i := L.k + L.v + L.Fn(L.h.x.a)", 0}, {"ch := L.one", 0}, {"t := L.one", 0}, {"@t := L.t", api.ErrType}, {"@L.v := 1", api.ErrVar}, {"@L.t[0] := 1X", api.ErrVar}, {"@L.h := L.h", api.ErrVar}, {"@L.h.x := NIL", api.ErrVar}, {"@L.h.l[0].a := 1", api.ErrVar}, {"L.h.x.a := 1", 0}, {"L.h.x^.a := 1", 0}, {"L.p.a := 1", 0}, {"@L.p := NIL", api.ErrVar}, {"L.p^ := L.h.l[1]", 0}, {"lp := L.p", 0}, {"lp := L.h.x", 0}, {"le := L.p(L.PE)", 0}, {"@L.p(L.PE) := le", api.ErrVar}, {"L.p(L.PE).e := 1X", 0},
		{"i := @L.h.x.b", api.ErrName}, {"i := @L.p.b", api.ErrName}, {"lp := @L.h.y", api.ErrName}, {"@x.b := 1", api.ErrName}, {"x.a := 1; x.z := x.a; x.r.i := 2", 0}, {"i := L.e.a", 0}, {"i := @L.e.b", api.ErrName}, {"ch := L.e.e", 0}, {"i := @L.zz", api.ErrName}, {"@L.zz := 1", api.ErrName}, {"i := @L.zz.a", api.ErrName}, {"i := @L.T", api.ErrName}, {"@L.Fn := Fn", api.ErrVar}, {"f1 := L.Fn", 0}, {"f1 := L.f", 0}, {"L.Go", 0}, {"L.Go()", 0}, {"f0 := L.Go", 0},
	})
	eachIn(t, moduleOf, []faulty{
		{"IMPORT L; VAR a: L.R; b: L.P; c: L.Num; d: L.F; e: L.T8; BEGIN a.a := 1; b := NIL; c := 1; d := L.Fn; e := L.t", 0}, {"IMPORT L; VAR a: @L.H;", api.ErrName}, {"IMPORT L; VAR a: @L.T;", api.ErrName}, {"IMPORT L; VAR a: @L.v;", api.ErrName}, {"IMPORT L; VAR a: @L.k;", api.ErrName}, {"IMPORT L; VAR a: @L.Fn;", api.ErrName}, {"IMPORT L; VAR a: @L.zz;", api.ErrName}, {"IMPORT X := L; VAR a: @L.R;", api.ErrName}, {"IMPORT X := L; VAR a: X.R;", 0}, {"IMPORT L; VAR a: @L;", api.ErrName}, {"IMPORT L; TYPE T = POINTER TO L.R; VAR a: T; BEGIN a.a := 1", 0}, {"IMPORT L; TYPE T = POINTER TO @L.P;", api.ErrType}, {"IMPORT L; TYPE T = POINTER TO @L.Num;", api.ErrType}, {"IMPORT L; TYPE T = POINTER TO @L.zz; zz = RECORD END;", api.ErrName}, {"IMPORT L; TYPE T = RECORD (L.R) c: INTEGER END; VAR a: T; BEGIN a.a := a.c", 0}, {"IMPORT L; TYPE T = RECORD (L.R) @b: INTEGER END;", api.ErrTwice}, {"IMPORT L; TYPE T = RECORD (L.E) @a: INTEGER END;", api.ErrTwice}, {"IMPORT L; TYPE T = RECORD (@L.P) END;", api.ErrType}, {"IMPORT L; TYPE T = RECORD (@L.Num) END;", api.ErrType}, {"IMPORT L; TYPE T = PROCEDURE (): @L.R;", api.ErrType}, {"IMPORT L; TYPE T = PROCEDURE (): L.P;", 0}, {"IMPORT L; CONST c = L.k + 1; d = L.one = 78X; VAR a: ARRAY L.k OF CHAR; BEGIN a[6] := 1X", 0}, {"IMPORT L; VAR a: ARRAY L.k OF CHAR; BEGIN a[@7] := 1X", api.ErrConst}, {"IMPORT L; CONST c = @L.v;", api.ErrConst}, {"IMPORT L; CONST c = @L.R;", api.ErrConst}, {"IMPORT L; CONST c = @L;", api.ErrConst}, {"IMPORT L; CONST c = @L.w;", api.ErrName}, {"IMPORT L; CONST c = LEN(L.t);", 0},
	})
}

// P18.1: an imported type with all that stands in it, which has another place
// here than there.
func TestImportedParts(t *testing.T) {
	l := mustPass(t, "MODULE L; TYPE A* = ARRAY 2 OF CHAR; R* = RECORD i*: INTEGER END; Q* = RECORD (R) a*: A; p*: POINTER TO R END; P* = POINTER TO Q; F* = PROCEDURE (VAR q: Q): P; VAR f*: F; g*: ARRAY 2 OF F; END L.")
	s := "MODULE A; IMPORT L; TYPE X = ARRAY 3 OF SET; Y = RECORD x: X END; VAR x: X; y: Y; q: L.Q; b: BOOLEAN; "
	for _, x := range []faulty{
		{"BEGIN q.i := L.f(q).i; b := q.a = L.f(q).a; b := L.f(q).p = NIL; L.f(q).p.i := 1", 0}, {"BEGIN q.i := L.g[1](q).p.i", 0}, {"VAR p: L.P; BEGIN p := L.f(q); p := L.g[0](p^)", 0}, {"BEGIN q.i := L.f(@x).i", api.ErrType}, {"BEGIN @b := L.f(q)", api.ErrType}, {"BEGIN @x := L.f(q).a", api.ErrType}, {"BEGIN @y := L.f(q)^", api.ErrType}, {"BEGIN L.f(q)^ := q", 0}, {"PROCEDURE F(VAR q: L.Q): L.P; RETURN L.f(q) END F; BEGIN b := F = L.f", 0},
	} {
		mustDo(t, x.code, strings.Replace(s, "b: BOOLEAN; ", "b: BOOLEAN; "+strings.TrimPrefix(x.s, "VAR "), 1)+" END A.", l)
	}
}
