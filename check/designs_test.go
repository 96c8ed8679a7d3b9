package check

import (
	"testing"

	"spinet/api"
)

// P18.1: fields.
func TestFields(t *testing.T) {
	eachIn(t, body, []faulty{
		{"r0.f := 1; r0.g := 2X; r1.f := 1; r2.f := 1; r2.h := {}; rec.r.h := {}; rec.a[1] := 2; ar[1].f := 3", 0}, {"p0.f := 1; p0^.f := 1; p2.f := 1; p2.h := {}; rec.p.f := 2; ap[2].f := 4; r0.p.p.p.f := 5", 0}, {"i := FnP().f; FnP().f := 1; FnP().p.f := 2", 0},
		{"@r0.h := {}", api.ErrName}, {"@p0.h := {}", api.ErrName}, {"@r0.F := 1", api.ErrName}, {"i := 1 + @r0.T0", api.ErrName}, {"@i.f := 1", api.ErrType}, {"@a.f := 1", api.ErrType}, {"@f0.f := 1", api.ErrType}, {"i := @c3.f", api.ErrType}, {"i := @cNil.f", api.ErrType}, {"i := @Fn(1).f", api.ErrType}, {"i := @E().f", api.ErrType}, {"i := @Fn.f", api.ErrType}, {"i := @r0.f.f", api.ErrType}, {"@zz.f := 1", api.ErrName}, {"i := @ABS(i).f", api.ErrType}, {"i := @cTwo.f", api.ErrType},
		{"@r0.f := TRUE", api.ErrType}, {"@r0.g := 1", api.ErrType}, {"@r0.p := p1^", api.ErrType}, {"r0.p := p1; r0.p := NIL; r0 := r0.p^", 0},
	})
}

// P18.1: indices.
func TestIndices(t *testing.T) {
	eachIn(t, body, []faulty{
		{"a[0] := a[4]; a[i] := a[Fn(i)]; m[1, 2] := m[0][i]; m[i][j] := 1; t[7] := t[i]; ar[0].f := ap[1].f", 0},
		{"a[@5] := 1", api.ErrConst}, {"a[@-1] := 1", api.ErrConst}, {"a[@2147483647] := 1", api.ErrConst}, {"a[@c3 + 2] := 1", api.ErrConst}, {"a[c3 + 1] := 1", 0}, {"m[@2, 0] := 1", api.ErrConst}, {"m[1, @3] := 1", api.ErrConst}, {"m[i, @3] := 1", api.ErrConst}, {"a[LEN(a) - 1] := 1", 0}, {"a[@LEN(a)] := 1", api.ErrConst}, {"a[@L.k] := 1", api.ErrConst}, {"a[5 + i] := 1", 0},
		{"a[@b] := 1", api.ErrType}, {"a[@ch] := 1", api.ErrType}, {"a[@\"a\"] := 1", api.ErrType}, {"a[@TRUE] := 1", api.ErrType}, {"a[@NIL] := 1", api.ErrType}, {"a[@{1}] := 1", api.ErrType}, {"a[@zz] := 1", api.ErrName}, {"a[@INTEGER] := 1", api.ErrName}, {"a[@L] := 1", api.ErrName}, {"a[@ABS] := 1", api.ErrName}, {"a[@E()] := 1", api.ErrType}, {"m[0, @b] := 1", api.ErrType}, {"m[@b, b] := 1", api.ErrType}, {"m[@9, b] := 1", api.ErrConst},
		{"@i[0] := 1", api.ErrType}, {"@r0[0] := 1", api.ErrType}, {"@p0[0] := 1", api.ErrType}, {"ch := @cTwo[0]", api.ErrType}, {"@a[0][0] := 1", api.ErrType}, {"@a[0, 0] := 1", api.ErrType}, {"@zz[0] := 1", api.ErrName}, {"@Fn[0] := 1", api.ErrType}, {"i := @Fn(1)[0]", api.ErrType}, {"i := NIL + @i[0]", api.ErrType}, {"@a := m[0]", api.ErrType}, {"m[0] := m[1]", 0}, {"@m[0] := a", api.ErrType},
	})
	eachIn(t, within, []faulty{
		{"v := o[n] + o[0] + o[2147483647] + oo[n][0] + oo[1, 2]; w[5] := oc[6]", 0}, {"v := o[@-1]", api.ErrConst}, {"w[@-1] := 0X", api.ErrConst}, {"w[@b] := 0X", api.ErrType}, {"v := oo[@-1, 0]", api.ErrConst}, {"v := oo[0, @-1]", api.ErrConst}, {"y[@5] := 1", api.ErrConst}, {"z[@5] := 1", api.ErrConst}, {"@v := oo[0]", api.ErrType},
	})
}

// P18.1: pointers that are followed.
func TestDerefs(t *testing.T) {
	eachIn(t, body, []faulty{
		{"p0^ := r0; p0^ := p1^; r0 := p2^; p0^.p^ := r1; FnP()^ := r1; lp^.a := 1; L.p^.a := 1; ap[1]^ := r0", 0}, {"@i^ := 1", api.ErrType}, {"@r0^ := r0", api.ErrType}, {"@a^ := a", api.ErrType}, {"@f0^ := f0", api.ErrType}, {"r0 := @cNil^", api.ErrType}, {"r0 := @p0^^", api.ErrType}, {"@zz^ := r0", api.ErrName}, {"@E^ := r0", api.ErrType}, {"r0 := @E()^", api.ErrType}, {"@P0^ := r0", api.ErrType}, {"@L^ := r0", api.ErrType}, {"@NEW^ := r0", api.ErrType}, {"@p1^ := p0^", api.ErrType},
	})
}

// P18.1: guards, and what is asked for by IS.
func TestGuards(t *testing.T) {
	eachIn(t, body, []faulty{
		{"p1 := p0(P1); p2 := p0(P2); p0 := p0(P0); p0(P1).h := {}; p0(P1)^.h := {}; p0(P1) := p2; p2 := p0(P1)(P2); p1 := ap[0](P1); p1 := rec.p(P1); p1 := r0.p(P1)", 0},
		{"p0 := @p1(P0)", api.ErrType}, {"p0 := @p0(PU)", api.ErrType}, {"p0 := @p0(T1)", api.ErrType}, {"p0 := @p0(T0)", api.ErrType}, {"p0 := @p0(INTEGER)", api.ErrType}, {"p0 := @p0(L.P)", api.ErrType}, {"p0 := @p0(L.PE)", api.ErrType}, {"le := lp(L.PE)", 0}, {"le := L.h.x(L.PE)", 0}, {"le := L.p(L.PE)", 0}, {"lp := lp(L.P)", 0}, {"lp := @le(L.P)", api.ErrType}, {"le.e := 1X; lp(L.PE).e := 2X; @lp.e := 3X", api.ErrName},
		// No guards: then it is a call of what is none.
		{"p0 := @p0(i)", api.ErrType}, {"p0 := @p0(zz)", api.ErrType}, {"p0 := @p0(L.zz)", api.ErrType}, {"p0 := @p0(L.v)", api.ErrType}, {"p0 := @p0(L)", api.ErrType}, {"p0 := @p0(P1, P1)", api.ErrType}, {"p0 := @p0()", api.ErrType}, {"p0 := @p0(P1, zz)", api.ErrType}, {"p0 := @p0(p1)", api.ErrType}, {"p0 := @p0(r0.P1)", api.ErrType}, {"p0 := @p0(a[0])", api.ErrType}, {"p0 := @p0(Fn(zz))", api.ErrType}, {"p0 := @p0(ABS)", api.ErrType}, {"p0 := @p0(NIL)", api.ErrType},
		{"r0 := @r0(T1)", api.ErrType}, {"r0 := @r0(T0)", api.ErrType}, {"@rec.r(T1).f := 1", api.ErrType}, {"@p0^(T1).f := 1", api.ErrType}, {"p1 := @FnP()(P1)", api.ErrType}, {"p1 := @FnP()(P2)", api.ErrType}, {"i := @i(INTEGER)", api.ErrType}, {"@L.e(L.E).e := 1X", api.ErrType}, {"p0 := @cNil(P0)", api.ErrType}, {"i := Fn(@INTEGER)", api.ErrName}, {"One(@P1)", api.ErrName}, {"f0 := @f0(F0)", api.ErrCount},
		{"b := p0 IS P1; b := p0 IS P0; b := p0 IS P2; b := ap[1] IS P2; b := lp IS L.PE; b := L.p IS L.P; b := p0(P1) IS P2; b := ~(p0 IS P1) & (p0 IS P2)", 0},
		{"b := @p1 IS P0", api.ErrType}, {"b := @p0 IS PU", api.ErrType}, {"b := @p0 IS T1", api.ErrType}, {"b := @p0 IS L.PE", api.ErrType}, {"b := @p0 IS INTEGER", api.ErrType}, {"b := @p0 IS i", api.ErrType}, {"b := @p0 IS zz", api.ErrType}, {"b := @p0 IS L.zz", api.ErrType}, {"b := @p0 IS L.v", api.ErrType}, {"b := @p0 IS L", api.ErrType}, {"b := @p0 IS p1", api.ErrType}, {"b := @p0 IS (zz + 1)", api.ErrType}, {"b := @p0 IS zz.a", api.ErrType}, {"b := @p0 IS a[zz]", api.ErrType}, {"b := @p0 IS P1()", api.ErrType}, {"b := @p0 IS 5", api.ErrType}, {"b := @p0 IS NIL", api.ErrType}, {"b := @p0 IS r0.P1", api.ErrType},
		{"b := @r0 IS T1", api.ErrType}, {"b := @lp IS rec.L.PE", api.ErrType}, {"lp := @lp(rec.L.PE)", api.ErrType}, {"b := @FnP() IS P2", api.ErrType}, {"b := @NIL IS P1", api.ErrType}, {"b := @i IS INTEGER", api.ErrType}, {"b := @T0 IS T1", api.ErrType}, {"b := @L IS T1", api.ErrType}, {"b := @E() IS T1", api.ErrType}, {"b := @zz IS T1", api.ErrName}, {"b := @p0^ IS T1", api.ErrType}, {"@i := p0 IS P1", api.ErrType}, {"b := (@p0 IS P1) + 1", api.ErrType},
	})
	eachIn(t, within, []faulty{
		{"q(T1).h := {}; q(T1)(T2).f := 1; q(T1) := r1; q(T0) := r0; p0(P1).h := {}; pp(P1).h := {}; b := q IS T1; b := pp IS P1; b := q(T1) IS T2; v := lr(L.E).a; lr(L.E).e := 1X", 0},
		{"@r(T1).h := {}", api.ErrType}, {"b := @r IS T1", api.ErrType}, {"@q(P1).h := {}", api.ErrType}, {"@q(U).f := 1", api.ErrType}, {"@q(i).f := 1", api.ErrType}, {"@q(zz).f := 1", api.ErrType}, {"@q(T1)(T0).f := 1", api.ErrType}, {"@y(A5)[0] := 1", api.ErrType}, {"@z(A5)[0] := 1", api.ErrType}, {"@v(INTEGER) := 1", api.ErrType}, {"@q.p^(T1).h := {}", api.ErrType}, {"q.p(P1).h := {}", 0}, {"b := @q(T2) IS T1", api.ErrType}, {"b := q(T2) IS T2", 0}, {"@lr(L.R).b := 1", api.ErrName}, {"b := lr IS L.E", 0}, {"b := @lr IS L.P", api.ErrType}, {"@w(S8)[0] := 1X", api.ErrType},
	})
}

// P18.1: a type that is not done is none for a guard.
func TestGuardsByTypesThatAreNotDone(t *testing.T) {
	eachIn(t, moduleOf, []faulty{
		{"TYPE P = POINTER TO RECORD a: ARRAY 3 OF CHAR END; VAR p: P; PROCEDURE Q; TYPE Z = ARRAY LEN(p(P).a) OF CHAR; END Q;", 0},
		{"TYPE P = POINTER TO RECORD a: ARRAY 3 OF CHAR END; VAR p: P; PROCEDURE Q; TYPE P = ARRAY LEN(@p(P).a) OF CHAR; END Q;", api.ErrType},
		{"TYPE T = RECORD END; P = POINTER TO T; VAR p: P; PROCEDURE Q; TYPE W = POINTER TO S; Z = ARRAY ORD(@p(W) = p) OF CHAR; S = RECORD (T) END; END Q;", api.ErrType},
		{"TYPE T = RECORD END; P = POINTER TO T; VAR p: P; PROCEDURE Q; TYPE W = POINTER TO S; S = RECORD (T) END; Z = ARRAY ORD(@p IS W) OF CHAR; END Q;", api.ErrType},
		{"TYPE T = RECORD END; P = POINTER TO T; VAR p: P; PROCEDURE Q; TYPE S = RECORD (T) END; W = POINTER TO S; Z = ARRAY @ORD(p IS W) OF CHAR; END Q;", api.ErrConst},
	})
}
