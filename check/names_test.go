package check

import (
	"testing"

	"spinet/api"
)

// moduleOf is one with these declarations.
func moduleOf(s string) string { return "MODULE A; " + s + " END A." }

// P18.1: the universe may be hidden, level by level.
func TestUniverse(t *testing.T) {
	eachIn(t, moduleOf, []faulty{
		{"VAR a: INTEGER; b: BOOLEAN; c: CHAR; d: SET; BEGIN a := 1; b := TRUE; c := 1X; d := {}", 0},
		{"TYPE INTEGER = CHAR; VAR a: INTEGER; BEGIN a := 1X", 0},
		{"TYPE INTEGER = CHAR; VAR a: INTEGER; BEGIN @a := 1", api.ErrType},
		{"CONST INTEGER = 1; VAR a: @INTEGER;", api.ErrName},
		{"VAR INTEGER: INTEGER; a: @INTEGER;", api.ErrName},
		{"CONST ABS = 1; VAR a: INTEGER; BEGIN a := ABS", 0},
		{"CONST ABS = 1; VAR a: INTEGER; BEGIN a := @ABS(a)", api.ErrType},
		{"PROCEDURE INC(x: CHAR); END INC; BEGIN INC(1X)", 0},
		{"PROCEDURE INC(x: CHAR); BEGIN INC(@1) END INC;", api.ErrType},
		{"PROCEDURE P; VAR CHAR: CHAR; a: @CHAR; END P;", api.ErrName},
		{"PROCEDURE P; VAR CHAR: CHAR; END P; PROCEDURE Q; VAR a: CHAR; END Q;", 0},
		{"PROCEDURE P(CHAR: INTEGER; a: CHAR); VAR b: @CHAR; END P;", api.ErrName},
		{"PROCEDURE P(CHAR: INTEGER): CHAR; RETURN 1X END P;", 0},
	})
	for _, name := range []string{"ABS", "ODD", "LEN", "LSL", "ASR", "ROR", "ORD", "CHR", "EOT", "INC", "DEC", "INCL", "EXCL", "NEW", "ASSERT", "READ", "WRITE"} {
		mustFault(t, api.ErrName, moduleOf("VAR a: INTEGER; BEGIN a := @"+name))
		mustFault(t, api.ErrType, moduleOf("BEGIN @"+name))
		mustFault(t, api.ErrConst, moduleOf("CONST c = @"+name+";"))
		mustFault(t, api.ErrName, moduleOf("VAR a: @"+name+";"))
		mustFault(t, api.ErrVar, moduleOf("BEGIN @"+name+" := 1"))
		mustPass(t, moduleOf("VAR "+name+": INTEGER; BEGIN "+name+" := 1"))
	}
	for _, name := range []string{"INTEGER", "BOOLEAN", "CHAR", "SET"} {
		mustFault(t, api.ErrName, moduleOf("VAR a: INTEGER; BEGIN a := @"+name))
		mustFault(t, api.ErrType, moduleOf("BEGIN @"+name))
		mustFault(t, api.ErrType, moduleOf("BEGIN @"+name+"(1)"))
		mustFault(t, api.ErrVar, moduleOf("BEGIN @"+name+" := 1"))
		mustPass(t, moduleOf("VAR a: "+name+"; "+name+": "+name+"; BEGIN a := "+name))
	}
	for _, name := range []string{"REAL", "BYTE", "LONGINT", "SYSTEM", "PACK", "UNPK", "FLT", "FLOOR", "Integer", "integer", "abs"} {
		mustFault(t, api.ErrName, moduleOf("VAR a: @"+name+";"))
		mustFault(t, api.ErrName, moduleOf("BEGIN @"+name+"(1)"))
	}
}

// P18.1
func TestDeclaredAhead(t *testing.T) {
	eachIn(t, moduleOf, []faulty{
		{"CONST a = @a;", api.ErrName}, {"CONST a = @b; b = 1;", api.ErrName}, {"CONST a = 1; b = a;", 0},
		{"CONST a = @x; VAR x: INTEGER;", api.ErrName}, {"CONST a = @T; TYPE T = CHAR;", api.ErrName},
		{"TYPE T = @T;", api.ErrName}, {"TYPE T = ARRAY 2 OF @T;", api.ErrName}, {"TYPE T = RECORD a: @T END;", api.ErrName}, {"TYPE T = RECORD (@T) END;", api.ErrName},
		{"TYPE T = PROCEDURE (a: @T);", api.ErrName}, {"TYPE T = PROCEDURE (): @T;", api.ErrName}, {"TYPE T = PROCEDURE (a: ARRAY OF @T);", api.ErrName},
		{"TYPE T = ARRAY @T OF CHAR;", api.ErrConst}, {"TYPE T = ARRAY 1 + @T OF CHAR;", api.ErrName}, {"TYPE T = @U; U = CHAR;", api.ErrName}, {"TYPE T = CHAR; U = T; V = U; VAR v: V; BEGIN v := 1X", 0},
		{"VAR a: @a;", api.ErrName}, {"VAR a: @T;", api.ErrName}, {"VAR a: INTEGER; b: ARRAY @a OF CHAR;", api.ErrConst}, {"VAR a: ARRAY 3 OF CHAR; b: ARRAY LEN(a) OF CHAR;", 0}, {"VAR a: ARRAY LEN(@a) OF CHAR;", api.ErrName},
		{"PROCEDURE P; BEGIN @Q END P; PROCEDURE Q; END Q;", api.ErrName}, {"PROCEDURE P; BEGIN P END P;", 0}, {"PROCEDURE P; END P; PROCEDURE Q; BEGIN P END Q; BEGIN P; Q", 0},
		{"PROCEDURE P(x: @P); END P;", api.ErrName}, {"PROCEDURE P(): @P; END P;", api.ErrName}, {"PROCEDURE P; CONST a = @P; END P;", api.ErrConst}, {"PROCEDURE P; VAR a: @P; END P;", api.ErrName},
		{"PROCEDURE P; VAR a: INTEGER; END P; BEGIN @a := 1", api.ErrName}, {"PROCEDURE P(a: INTEGER); END P; BEGIN @a := 1", api.ErrName}, {"PROCEDURE P; VAR a: INTEGER; END P; PROCEDURE Q; BEGIN @a := 1 END Q;", api.ErrName}, {"PROCEDURE P; TYPE T = CHAR; END P; PROCEDURE Q(a: @T); END Q;", api.ErrName}, {"PROCEDURE P(a: CHAR; b: @a); END P;", api.ErrName},
	})
}

// P18.1: the innermost one counts.
func TestInnermost(t *testing.T) {
	eachIn(t, moduleOf, []faulty{
		{"VAR a: INTEGER; PROCEDURE P; VAR a: CHAR; BEGIN a := 1X END P; BEGIN a := 1", 0}, {"VAR a: INTEGER; PROCEDURE P; VAR a: CHAR; BEGIN @a := 1 END P;", api.ErrType}, {"VAR a: INTEGER; PROCEDURE P; VAR a: CHAR; END P; BEGIN @a := 1X", api.ErrType},
		{"VAR a: INTEGER; PROCEDURE P(a: CHAR); BEGIN a := 1X END P; BEGIN a := 1", 0}, {"VAR a: INTEGER; PROCEDURE P; CONST b = @a; VAR a: CHAR; END P;", api.ErrConst}, {"CONST a = 1; PROCEDURE P; CONST b = a; a = 1X; c = a; VAR v: CHAR; BEGIN v := c END P;", 0},
		{"PROCEDURE P; VAR P: INTEGER; BEGIN P := 1 END P; BEGIN P", 0}, {"TYPE T = CHAR; PROCEDURE P(a: T); TYPE T = INTEGER; VAR b: T; BEGIN b := 1; a := 1X; @b := a END P;", api.ErrType},
		{"VAR i: INTEGER; PROCEDURE P; VAR i: CHAR; BEGIN @FOR i := 1 TO 2 DO END END P;", api.ErrVar},
	})
	lf := libFace(t)
	mustFault(t, api.ErrType, "MODULE A; IMPORT L; VAR i: INTEGER; PROCEDURE P; VAR L: INTEGER; BEGIN i := @L.v END P; END A.", lf)
	mustFault(t, api.ErrName, "MODULE A; IMPORT L; PROCEDURE P; VAR L: INTEGER; a: @L.R; END P; END A.", lf)
	mustPass(t, "MODULE A; IMPORT L; VAR i: INTEGER; PROCEDURE P(L: L.R); VAR a: RECORD v: CHAR END; BEGIN i := L.a END P; BEGIN i := L.v END A.", lf)
	mustPass(t, "MODULE A; IMPORT L; PROCEDURE P; VAR L: RECORD v: INTEGER END; BEGIN L.v := 1 END P; END A.", lf)
}

// P18.1: what stands for something that can't be there.
func TestMisplaced(t *testing.T) {
	eachIn(t, moduleOf, []faulty{
		{"VAR a: INTEGER; b: @a;", api.ErrName}, {"CONST a = 1; TYPE T = @a;", api.ErrName}, {"PROCEDURE P; END P; PROCEDURE Q; VAR a: @P; END Q;", api.ErrName}, {"VAR a: @A;", api.ErrName}, {"VAR a: @A.T;", api.ErrName}, {"VAR a: @INTEGER.T;", api.ErrName}, {"VAR a: INTEGER; b: @a.T;", api.ErrName}, {"BEGIN @A.x := 1", api.ErrName}, {"TYPE T = CHAR; VAR a: @T.T;", api.ErrName},
		{"TYPE T = CHAR; VAR a: CHAR; BEGIN a := @T", api.ErrName}, {"TYPE T = CHAR; BEGIN @T := 1X", api.ErrVar}, {"CONST c = 1; BEGIN @c := 1", api.ErrVar}, {"PROCEDURE P; END P; BEGIN @P := NIL", api.ErrVar}, {"TYPE T = CHAR; BEGIN @T", api.ErrType}, {"CONST c = 1; BEGIN @c", api.ErrType}, {"TYPE T = CHAR; BEGIN @T(1)", api.ErrType}, {"CONST c = 1; BEGIN @c(1)", api.ErrType}, {"BEGIN @c", api.ErrName}, {"BEGIN @c(1)", api.ErrName}, {"BEGIN @c.d(1)", api.ErrName},
		{"CONST c = 1; TYPE T = POINTER TO @c;", api.ErrName}, {"PROCEDURE P; TYPE T = POINTER TO @P; END P;", api.ErrName}, {"CONST c = 1; TYPE T = RECORD (@c) END;", api.ErrName}, {"CONST c = 1; TYPE T = PROCEDURE (): @c;", api.ErrName}, {"CONST c = 1; PROCEDURE P(a: @c); END P;", api.ErrName}, {"CONST c = 1; PROCEDURE P(a: ARRAY OF @c); END P;", api.ErrName},
	})
	eachIn(t, body, []faulty{
		{"@L", api.ErrType}, {"@L(1)", api.ErrType}, {"@L := 1", api.ErrVar}, {"i := @L", api.ErrName}, {"i := @L.R", api.ErrName}, {"@L.R := 1", api.ErrVar}, {"@L.R", api.ErrType}, {"@L.R(i)", api.ErrType}, {"@L.k", api.ErrType}, {"@L.hid := 1", api.ErrName}, {"i := @L.hid", api.ErrName}, {"i := @L.w", api.ErrName}, {"@L.No", api.ErrName}, {"i := @L.L", api.ErrName}, {"i := @A.i", api.ErrName}, {"i := @i.j", api.ErrType}, {"@L[0] := 1", api.ErrType}, {"@L^ := 1", api.ErrType}, {"@T0.f := 1", api.ErrType}, {"@A5[0] := 1", api.ErrType}, {"@P0^ := r0", api.ErrType}, {"@P0.f := 1", api.ErrType}, {"@ABS.f := 1", api.ErrType}, {"@E.f := 1", api.ErrType},
	})
}

// P18.1: a name twice in one level, each kind of declaration with each.
func TestTwice(t *testing.T) {
	eachIn(t, moduleOf, []faulty{
		{"IMPORT n := L; CONST @n = 1;", api.ErrTwice}, {"IMPORT n := L; TYPE @n = CHAR;", api.ErrTwice}, {"IMPORT n := L; VAR @n: CHAR;", api.ErrTwice}, {"IMPORT n := L; @PROCEDURE n; END n;", api.ErrTwice},
		{"IMPORT n := L; CONST L = 1;", 0}, {"IMPORT n := L; TYPE L = CHAR;", 0}, {"IMPORT n := L; PROCEDURE P; VAR n: INTEGER; END P;", 0},
		{"CONST n = 1; @n = 1;", api.ErrTwice}, {"CONST n = 1; TYPE @n = CHAR;", api.ErrTwice}, {"CONST n = 1; VAR @n: CHAR;", api.ErrTwice}, {"CONST n = 1; @PROCEDURE n; END n;", api.ErrTwice}, {"CONST n = 1; N = 2;", 0},
		{"TYPE n = CHAR; @n = CHAR;", api.ErrTwice}, {"TYPE n = CHAR; VAR @n: CHAR;", api.ErrTwice}, {"TYPE n = CHAR; @PROCEDURE n; END n;", api.ErrTwice},
		{"VAR n: CHAR; @n: CHAR;", api.ErrTwice}, {"VAR n, @n: CHAR;", api.ErrTwice}, {"VAR n: CHAR; @PROCEDURE n; END n;", api.ErrTwice},
		{"PROCEDURE n; END n; @PROCEDURE n; END n;", api.ErrTwice}, {"PROCEDURE n; END n; PROCEDURE N; END N;", 0}, {"VAR A: CHAR;", 0}, {"PROCEDURE A; END A;", 0},
		{"PROCEDURE P(n: CHAR; @n: CHAR); END P;", api.ErrTwice}, {"PROCEDURE P(n, @n: CHAR); END P;", api.ErrTwice}, {"PROCEDURE P(n, m: CHAR; VAR k: CHAR; @m: SET); END P;", api.ErrTwice}, {"PROCEDURE P(n: CHAR); CONST @n = 1; END P;", api.ErrTwice}, {"PROCEDURE P(n: CHAR); TYPE @n = CHAR; END P;", api.ErrTwice}, {"PROCEDURE P(n: CHAR); VAR @n: CHAR; END P;", api.ErrTwice},
		{"PROCEDURE P; CONST n = 1; @n = 2; END P;", api.ErrTwice}, {"PROCEDURE P; CONST n = 1; TYPE @n = CHAR; END P;", api.ErrTwice}, {"PROCEDURE P; CONST n = 1; VAR @n: CHAR; END P;", api.ErrTwice}, {"PROCEDURE P; TYPE n = CHAR; @n = CHAR; END P;", api.ErrTwice}, {"PROCEDURE P; TYPE n = CHAR; VAR @n: CHAR; END P;", api.ErrTwice}, {"PROCEDURE P; VAR n, @n: CHAR; END P;", api.ErrTwice},
		{"VAR n: CHAR; PROCEDURE P(n: CHAR); END P; PROCEDURE Q; CONST n = 1; END Q; PROCEDURE R; TYPE n = CHAR; END R; PROCEDURE n1; VAR n: SET; END n1;", 0},
		{"PROCEDURE P(a, b: CHAR); VAR c: CHAR; END P; PROCEDURE Q(a, b: CHAR); VAR c: CHAR; END Q;", 0}, {"TYPE F = PROCEDURE (a, a: CHAR; a: SET);", 0}, {"PROCEDURE P(P: CHAR); END P;", 0},
	})
}
