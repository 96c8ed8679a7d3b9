package check

import (
	"fmt"
	"strings"
	"testing"

	"spinet/api"
)

// P18.1
func TestConsts(t *testing.T) {
	eachIn(t, moduleOf, []faulty{
		{"CONST a = 1; b = 1X; c = \"\"; d = NIL; e = TRUE; f = {}; g = -1; h = a + g; i = ~e;", 0}, {"CONST a = \"abc\"; b = a; c = a = b;", 0},
		{"VAR v: INTEGER; PROCEDURE P; CONST c = @v; END P;", api.ErrConst}, {"VAR v: INTEGER; PROCEDURE P; CONST c = @v + 1; END P;", api.ErrConst}, {"VAR v: INTEGER; PROCEDURE P; CONST c = @v + TRUE; END P;", api.ErrType}, {"CONST a = @INTEGER;", api.ErrConst}, {"CONST a = @ABS;", api.ErrConst}, {"CONST a = @EOT();", api.ErrConst}, {"CONST a = ABS(@TRUE);", api.ErrType},
		{"PROCEDURE P; END P; PROCEDURE Q; CONST c = @P; END Q;", api.ErrConst}, {"PROCEDURE P; END P; PROCEDURE Q; CONST c = @P(); END Q;", api.ErrConst}, {"VAR v: INTEGER; PROCEDURE Q; CONST c = @INC(v); END Q;", api.ErrConst}, {"PROCEDURE P(): INTEGER; RETURN 1 END P; PROCEDURE Q; CONST c = @P(); END Q;", api.ErrConst}, {"CONST a = -@ABS;", api.ErrName}, {"CONST a = 1 + @INTEGER;", api.ErrName},
		{"VAR a: ARRAY 5 OF INTEGER; o: INTEGER; PROCEDURE P(b: ARRAY OF CHAR); CONST c = LEN(a); END P;", 0}, {"PROCEDURE P(b: ARRAY OF CHAR); VAR c: ARRAY @LEN(b) OF CHAR; END P;", api.ErrConst}, {"PROCEDURE P(b: ARRAY OF CHAR; VAR d: INTEGER); VAR c: ARRAY @d OF CHAR; END P;", api.ErrConst}, {"TYPE A3 = ARRAY 3 OF CHAR; PROCEDURE P(a: A3; VAR b: A3); VAR c: ARRAY LEN(a) + LEN(b) OF CHAR; BEGIN c[5] := 1X; c[@6] := 2X END P;", api.ErrConst},
	})
	f := mustPass(t, "MODULE A; CONST a* = 1; b* = 1X; c* = \"ab\"; d* = NIL; e* = TRUE; f* = {1}; g* = -1; END A.")
	want := []api.Value{{Form: api.FmInt, N: 1}, {Form: api.FmChar, N: 1}, {Form: api.FmText, Text: "ab"}, {Form: api.FmNil}, {Form: api.FmBool, N: 1}, {Form: api.FmSet, N: 2}, {Form: api.FmInt, N: -1}}
	for i, v := range want {
		if o := f.Objs[i]; o != (api.Obj{Class: api.ClConst, Name: string(rune('a' + i)), Type: v.Form, Value: v}) {
			t.Errorf("P18.1: constant %d is %v", i, o)
		}
	}
}

// P18.1
func TestArrays(t *testing.T) {
	eachIn(t, moduleOf, []faulty{
		{"VAR a: ARRAY 1 OF CHAR; b: ARRAY 4096 OF CHAR; c: ARRAY 2, 3, 4 OF INTEGER; BEGIN a[0] := 1X; b[4095] := 2X; c[1, 2, 3] := 5; c[1][2][3] := 5", 0},
		{"VAR a: ARRAY @0 OF CHAR;", api.ErrConst}, {"VAR a: ARRAY @4097 OF CHAR;", api.ErrConst}, {"VAR a: ARRAY @-1 OF CHAR;", api.ErrConst}, {"VAR a: ARRAY @2147483647 OF CHAR;", api.ErrConst}, {"VAR a: ARRAY @TRUE OF CHAR;", api.ErrConst}, {"VAR a: ARRAY @1X OF CHAR;", api.ErrConst}, {"VAR a: ARRAY @\"a\" OF CHAR;", api.ErrConst}, {"VAR a: ARRAY @{1} OF CHAR;", api.ErrConst}, {"VAR a: ARRAY @NIL OF CHAR;", api.ErrConst}, {"VAR a: ARRAY 2, @0 OF CHAR;", api.ErrConst}, {"VAR a: ARRAY @0, 0 OF CHAR;", api.ErrConst}, {"VAR a: ARRAY @x, 2 OF CHAR;", api.ErrName}, {"VAR a: ARRAY @INTEGER OF CHAR;", api.ErrConst}, {"VAR a: ARRAY @0 OF B;", api.ErrConst}, {"VAR a: ARRAY 2 OF @B;", api.ErrName}, {"VAR a: ARRAY @1 DIV 0 OF CHAR;", api.ErrZero},
		{"TYPE T = ARRAY 8, 4096 OF CHAR;", 0}, {"TYPE T = @ARRAY 9, 4096 OF CHAR;", api.ErrSize}, {"TYPE T = @ARRAY 4096, 9 OF CHAR;", api.ErrSize}, {"TYPE T = ARRAY 4096, 8 OF CHAR;", 0}, {"TYPE T = @ARRAY 4096, 4096, 4096, 4096 OF CHAR;", api.ErrSize}, {"TYPE T = ARRAY 4096 OF INTEGER; U = ARRAY 2 OF T; V = @ARRAY 3 OF T;", api.ErrSize}, {"TYPE T = ARRAY 2 OF @ARRAY 9, 4096 OF CHAR;", api.ErrSize}, {"TYPE T = ARRAY 2048, 13 OF CHAR;", 0}, {"TYPE T = @ARRAY 2048, 17 OF CHAR;", api.ErrSize}, {"TYPE T = ARRAY 2048 OF RECORD a, b, c, d: SET END;", 0}, {"TYPE T = @ARRAY 2048 OF RECORD a, b, c, d: SET; e: CHAR END;", api.ErrSize},
		{"TYPE P = POINTER TO R; A = ARRAY 4096 OF P; B = ARRAY 2 OF A; C = @ARRAY 3 OF A; R = RECORD END;", api.ErrSize}, {"TYPE P = POINTER TO R; A = ARRAY 4096 OF P; B = ARRAY 2 OF A; R = RECORD a: B END;", 0},
		{"VAR a: ARRAY 2 OF PROCEDURE (): INTEGER; b: ARRAY 2 OF RECORD c: CHAR END; BEGIN b[0].c := 1X; b[0] := b[1]; a[0] := a[1]", 0},
	})
}

// P18.1
func TestRecords(t *testing.T) {
	eachIn(t, moduleOf, []faulty{
		{"TYPE T = RECORD END; U = RECORD a, b: INTEGER; c: T; d: RECORD a: CHAR END END; V = RECORD (U) e: CHAR END; VAR v: V; BEGIN v.a := v.b; v.d.a := v.e", 0},
		{"TYPE T = RECORD a, @a: INTEGER END;", api.ErrTwice}, {"TYPE T = RECORD a: INTEGER; b: CHAR; @a: CHAR END;", api.ErrTwice}, {"TYPE T = RECORD a: INTEGER END; U = RECORD (T) b: CHAR; @a: CHAR END;", api.ErrTwice}, {"TYPE T = RECORD a: INTEGER END; U = RECORD (T) b: CHAR END; V = RECORD (U) @a: CHAR END;", api.ErrTwice}, {"TYPE T = RECORD a: INTEGER END; U = RECORD (T) b: CHAR END; V = RECORD (U) @b: CHAR END;", api.ErrTwice}, {"TYPE T = RECORD a: INTEGER END; U = RECORD a: T END;", 0}, {"TYPE T = RECORD T: INTEGER END;", 0}, {"TYPE T = RECORD INTEGER: CHAR; a: INTEGER END;", 0}, {"TYPE T = RECORD a: @Z; a: CHAR END;", api.ErrName}, {"TYPE T = RECORD a: CHAR; a: @Z END;", api.ErrName},
		{"TYPE T = RECORD (@INTEGER) END;", api.ErrType}, {"TYPE T = RECORD (@Z) END;", api.ErrName}, {"TYPE P = POINTER TO RECORD END; T = RECORD (@P) END;", api.ErrType}, {"TYPE P = POINTER TO R; R = RECORD END; T = RECORD (@P) a: Z END;", api.ErrType}, {"TYPE A = ARRAY 2 OF CHAR; T = RECORD (@A) END;", api.ErrType},
		{"TYPE A0 = RECORD END; A1 = RECORD (A0) END; A2 = RECORD (A1) END; A3 = RECORD (A2) END; A4 = RECORD (A3) END; B4 = RECORD (A3) END;", 0}, {"TYPE A0 = RECORD END; A1 = RECORD (A0) END; A2 = RECORD (A1) END; A3 = RECORD (A2) END; A4 = RECORD (A3) END; B = A4; C = RECORD (@B) a: Z END;", api.ErrSize},
		{"TYPE T = ARRAY 4096 OF INTEGER; U = RECORD a, b: T END;", 0}, {"TYPE T = ARRAY 4096 OF INTEGER; U = @RECORD a, b: T; c: CHAR END;", api.ErrSize}, {"TYPE T = ARRAY 4096 OF INTEGER; U = RECORD a, b: T END; V = RECORD (U) END; W = @RECORD (U) c: CHAR END;", api.ErrSize}, {"TYPE T = ARRAY 4096 OF INTEGER; U = RECORD r: @RECORD a, b: T; c: CHAR END; r: T END;", api.ErrSize}, {"TYPE T = ARRAY 4096 OF INTEGER; U = RECORD a, b, c: T; @a: CHAR END;", api.ErrTwice}, {"TYPE P = POINTER TO R; T = ARRAY 4096 OF INTEGER; U = @RECORD a, b: T; c: P END; R = RECORD END;", api.ErrSize},
	})
}

// P18.1
func TestPointers(t *testing.T) {
	eachIn(t, moduleOf, []faulty{
		{"TYPE P = POINTER TO @INTEGER;", api.ErrType}, {"TYPE P = POINTER TO @ARRAY 2 OF CHAR;", api.ErrType}, {"TYPE P = POINTER TO @POINTER TO R; R = RECORD END;", api.ErrType}, {"TYPE P = POINTER TO @PROCEDURE;", api.ErrType}, {"TYPE P = POINTER TO ARRAY @0 OF CHAR;", api.ErrConst}, {"TYPE P = POINTER TO RECORD a: @Z END;", api.ErrName}, {"TYPE A = ARRAY 2 OF CHAR; P = POINTER TO @A;", api.ErrType},
		// What is declared further on.
		{"TYPE P = POINTER TO R; R = RECORD n: P; a: INTEGER END; VAR p: P; BEGIN p.n.n.a := 1", 0}, {"TYPE P = POINTER TO @R;", api.ErrName}, {"TYPE P = POINTER TO @R; VAR R: RECORD END;", api.ErrName}, {"TYPE P = POINTER TO @R; R = INTEGER;", api.ErrType}, {"TYPE P = POINTER TO @R; R = P;", api.ErrType}, {"TYPE P = POINTER TO @P;", api.ErrType}, {"TYPE P = POINTER TO @Q; Q = POINTER TO R; R = RECORD END;", api.ErrType}, {"TYPE P = POINTER TO R; Q = RECORD a: INTEGER END; R = Q; VAR p: P; BEGIN p.a := 1", 0}, {"TYPE R = RECORD p: POINTER TO R; a: INTEGER END; VAR r: R; BEGIN r.p.p.a := 1; r := r.p^", 0}, {"TYPE R = RECORD p: POINTER TO Q END; Q = RECORD a: CHAR END; VAR r: R; BEGIN r.p.a := 1X", 0}, {"TYPE R = ARRAY 3 OF POINTER TO @R;", api.ErrType}, {"TYPE R = RECORD a: ARRAY 2 OF POINTER TO R END; VAR r: R; BEGIN r := r.a[1]^", 0}, {"TYPE R = ARRAY 3 OF POINTER TO Q; Q = RECORD r: R END; VAR q: Q; BEGIN q := q.r[0].r[1]^", 0},
		{"TYPE P = POINTER TO Q; R = @Q; Q = RECORD END;", api.ErrName}, {"TYPE P = POINTER TO @Q; S = CHAR; T = POINTER TO Z;", api.ErrName}, {"TYPE P = POINTER TO Q; S = CHAR; T = POINTER TO @Z; Q = RECORD END;", api.ErrName}, {"TYPE P = POINTER TO @Q; T = POINTER TO Z; Q = CHAR;", api.ErrType}, {"TYPE P = POINTER TO Q; @P = CHAR;", api.ErrTwice}, {"TYPE P = POINTER TO Q; A = ARRAY @0 OF CHAR;", api.ErrConst}, {"TYPE P = POINTER TO @Q; PROCEDURE Z; TYPE Q = RECORD END; END Z;", api.ErrName},
		// Found ahead, from the innermost level outwards.
		{"TYPE R = RECORD a: CHAR END; PROCEDURE Z; TYPE P = POINTER TO R; R = RECORD b: CHAR END; VAR p: P; BEGIN p.a := 1X; @p.b := 1X END Z;", api.ErrName}, {"PROCEDURE Z; TYPE P = POINTER TO @INTEGER; INTEGER = RECORD END; END Z;", api.ErrType}, {"PROCEDURE Z; TYPE P = POINTER TO @ABS; ABS = RECORD END; END Z;", api.ErrName}, {"PROCEDURE Z; TYPE P = POINTER TO R; R = RECORD b: CHAR; n: P END; VAR p: P; BEGIN p.n.b := 1X END Z;", 0}, {"TYPE R = RECORD a: CHAR END; PROCEDURE Z; TYPE R = RECORD b: POINTER TO R; c: CHAR END; VAR r: R; BEGIN r.b.c := 1X END Z;", 0}, {"PROCEDURE Z; TYPE P = POINTER TO @Q; VAR Q: RECORD END; END Z;", api.ErrName}, {"PROCEDURE Z(Q: CHAR); TYPE P = POINTER TO @Q; END Z;", api.ErrName},
		// In Vars and Fields of a Var there is nothing behind.
		{"VAR p: POINTER TO @U; U: RECORD END;", api.ErrName}, {"VAR p: RECORD a: POINTER TO @U END;", api.ErrName}, {"VAR p: ARRAY 2 OF POINTER TO @U;", api.ErrName}, {"VAR p: POINTER TO RECORD a: POINTER TO @U END;", api.ErrName}, {"VAR p: POINTER TO @p;", api.ErrName}, {"PROCEDURE Z; VAR p: POINTER TO @R; END Z; PROCEDURE Y; TYPE R = RECORD END; END Y;", api.ErrName}, {"TYPE R = RECORD END; VAR p: POINTER TO R; q: RECORD a: POINTER TO R END;", 0}, {"TYPE R = RECORD END; PROCEDURE Z; VAR p: POINTER TO @S; END Z;", api.ErrName},
	})
	// Two of one record are the same without names; a name sets one apart.
	mustPass(t, moduleOf("TYPE R = RECORD END; VAR p: POINTER TO R; q: POINTER TO R; BEGIN p := q; q := p"))
	mustPass(t, moduleOf("TYPE R = RECORD END; P = POINTER TO R; VAR p: P; q: P; r: R; BEGIN p := q; p^ := r; r := q^"))
	mustPass(t, moduleOf("TYPE P = POINTER TO RECORD a: INTEGER END; VAR p: P; q: POINTER TO RECORD END; BEGIN p.a := 1; p^.a := 2; q := NIL; NEW(q)"))
}

// P18.1
func TestProcTypes(t *testing.T) {
	eachIn(t, moduleOf, []faulty{
		{"TYPE F = PROCEDURE; G = PROCEDURE (); H = PROCEDURE (a, a: INTEGER; VAR a: ARRAY OF ARRAY OF CHAR): BOOLEAN; VAR f: F; g: G; h: H; BEGIN f := g; f; g()", 0}, {"TYPE F = PROCEDURE (INTEGER: INTEGER; b: INTEGER);", 0},
		{"TYPE F = PROCEDURE (a: @Z);", api.ErrName}, {"TYPE F = PROCEDURE (a: CHAR; b: @Z): Z;", api.ErrName}, {"TYPE F = PROCEDURE (): @Z;", api.ErrName}, {"TYPE R = RECORD END; F = PROCEDURE (): @R;", api.ErrType}, {"TYPE R = ARRAY 2 OF CHAR; F = PROCEDURE (): @R;", api.ErrType}, {"TYPE R = POINTER TO RECORD END; F = PROCEDURE (): R; G = PROCEDURE (): F; H = PROCEDURE (): SET;", 0}, {"TYPE R = RECORD END; F = PROCEDURE (a: @Z): R;", api.ErrName},
	})
	mustPass(t, moduleOf("TYPE P = POINTER TO R; F = PROCEDURE (a: P; VAR b: P): P; R = RECORD f: F END; VAR r: R; p: P; BEGIN r := r.f(NIL, p)^"))
}

// P18.1
func TestVars(t *testing.T) {
	eachIn(t, moduleOf, []faulty{
		{"VAR a: ARRAY 4096 OF INTEGER;", 0}, {"VAR a: ARRAY 4095 OF INTEGER; b, c, d, e: CHAR;", 0}, {"VAR a: RECORD END; b: ARRAY 4096 OF SET;", 0}, {"VAR a: @Z; a: CHAR;", api.ErrName}, {"VAR a: CHAR; a: @Z;", api.ErrName},
		{"VAR a, b: RECORD x: CHAR END; BEGIN @a := b", api.ErrType}, {"VAR a, b: ARRAY 3 OF CHAR; BEGIN a := b", 0}, {"TYPE T = RECORD END; VAR a, b: T; BEGIN a := b", 0}, {"VAR a, b: ARRAY 3 OF RECORD x: CHAR END; BEGIN @a := b", api.ErrType}, {"TYPE T = ARRAY 3 OF CHAR; VAR a: T; b: ARRAY 3 OF CHAR; BEGIN @a := b", api.ErrType},
	})
	for _, s := range []string{"a: ARRAY 4096 OF INTEGER; b: CHAR", "a: ARRAY 4095 OF INTEGER; b, c, d, e, f: CHAR", "b: CHAR; a: ARRAY 4096 OF INTEGER", "a, b, c: ARRAY 4096 OF INTEGER"} {
		// At the very end: behind all else.
		mustFault(t, api.ErrSize, "@MODULE A; VAR "+s+"; BEGIN a[0] := 1 END A.")
		mustFault(t, api.ErrType, "MODULE A; VAR "+s+"; BEGIN @a[0] := NIL END A.")
		mustFault(t, api.ErrName, "MODULE A; VAR "+s+"; PROCEDURE P; BEGIN @z END P; END A.")
	}
}

// P18.1
func TestProcs(t *testing.T) {
	eachIn(t, moduleOf, []faulty{
		{"PROCEDURE P; END P; PROCEDURE Q(); END Q; PROCEDURE R(a: INTEGER; VAR b: CHAR; c: ARRAY OF SET): CHAR; RETURN b END R; BEGIN P; Q; P(); Q()", 0},
		{"PROCEDURE P(a: @Z; a: CHAR); END P;", api.ErrName}, {"PROCEDURE P(a: CHAR; a: @Z); END P;", api.ErrName}, {"PROCEDURE P(a: CHAR; @a: CHAR; b: Z); END P;", api.ErrTwice}, {"PROCEDURE P(a: CHAR; @a: CHAR): Z; END P;", api.ErrTwice}, {"PROCEDURE P(a: CHAR): @Z; CONST a = 1; END P;", api.ErrName}, {"TYPE R = RECORD END; PROCEDURE P(): @R; CONST a = b; END P;", api.ErrType}, {"TYPE R = ARRAY 2 OF CHAR; PROCEDURE P(): @R; END P;", api.ErrType}, {"TYPE R = POINTER TO RECORD END; PROCEDURE P(): R; RETURN NIL END P;", 0},
		{"@PROCEDURE P(): INTEGER; END P;", api.ErrType}, {"@PROCEDURE P; RETURN 1 END P;", api.ErrType}, {"@PROCEDURE P; RETURN z END P;", api.ErrType}, {"PROCEDURE P; BEGIN @z RETURN 1 END P;", api.ErrName}, {"PROCEDURE P(): INTEGER; BEGIN @z END P;", api.ErrName}, {"PROCEDURE P(): INTEGER; RETURN @z END P;", api.ErrName}, {"PROCEDURE P(): INTEGER; RETURN @TRUE END P;", api.ErrType}, {"PROCEDURE P(): INTEGER; RETURN @INTEGER END P;", api.ErrName}, {"PROCEDURE P(): CHAR; RETURN \"a\" END P;", 0}, {"PROCEDURE P(): CHAR; RETURN @\"ab\" END P;", api.ErrType}, {"PROCEDURE P(): CHAR; RETURN @\"\" END P;", api.ErrType}, {"PROCEDURE P(): INTEGER; RETURN @\"a\" END P;", api.ErrType}, {"PROCEDURE P(): INTEGER; RETURN @NIL END P;", api.ErrType}, {"PROCEDURE P(): INTEGER; RETURN @1X END P;", api.ErrType}, {"PROCEDURE E; END E; PROCEDURE P(): INTEGER; RETURN @E() END P;", api.ErrType},
		{"TYPE R = RECORD END; S = RECORD (R) END; P0 = POINTER TO R; P1 = POINTER TO S; PROCEDURE P(a: P1): P0; RETURN a END P;", 0}, {"TYPE R = RECORD END; S = RECORD (R) END; P0 = POINTER TO R; P1 = POINTER TO S; PROCEDURE P(a: P0): P1; RETURN @a END P;", api.ErrType}, {"TYPE R = RECORD END; S = RECORD (R) END; P0 = POINTER TO R; P1 = POINTER TO S; PROCEDURE P(a: P0): P1; RETURN a(P1) END P;", 0},
		{"PROCEDURE P(n: INTEGER): INTEGER; VAR k: INTEGER; BEGIN IF n > 0 THEN k := P(n - 1) END RETURN k END P;", 0}, {"PROCEDURE P(a: INTEGER); CONST b = 2; TYPE T = ARRAY b OF CHAR; VAR c: T; d: ARRAY LEN(c) OF T; BEGIN d[1] := c; a := b END P;", 0},
	})
	mustPass(t, moduleOf("TYPE F = PROCEDURE; PROCEDURE R; END R; PROCEDURE P(): F; RETURN NIL END P; PROCEDURE Q(): F; RETURN R END Q; PROCEDURE S(): F; RETURN P() END S;"))
}

// P18.1: the room of Params and Vars, asked behind the Vars.
func TestRoomOfProcs(t *testing.T) {
	const full = "a, b: ARRAY 4096 OF INTEGER"
	for _, x := range []struct {
		params string
		bytes  int
	}{
		{"", 0}, {"x: INTEGER", 4}, {"x: CHAR", 4}, {"VAR x: CHAR", 4}, {"x: R", 4}, {"VAR x: R", 8}, {"x: T", 4}, {"VAR x: T", 4}, {"x: ARRAY OF CHAR", 8}, {"VAR x: ARRAY OF CHAR", 8}, {"x: ARRAY OF ARRAY OF CHAR", 8}, {"x: P", 4}, {"VAR x: P", 4}, {"x: F", 4}, {"x, y: CHAR; VAR z: R", 16}, {"x: R; VAR y: R; VAR z: ARRAY OF R", 20},
	} {
		types := "TYPE R = RECORD a, b, c, d: SET END; T = ARRAY 10 OF SET; P = POINTER TO R; F = PROCEDURE; "
		head := "PROCEDURE Q(" + x.params + "); VAR "
		fits := fmt.Sprintf("a: ARRAY 4096 OF INTEGER; b: ARRAY %d OF INTEGER;", 4096-x.bytes/4)
		mustPass(t, moduleOf(types+head+fits+" END Q;"))
		mustFault(t, api.ErrSize, moduleOf(types+"@"+head+fits+" c: CHAR; END Q;"))
		mustFault(t, api.ErrSize, moduleOf(types+"@"+head+fits+" c: CHAR; BEGIN z END Q;"))
		mustFault(t, api.ErrName, moduleOf(types+head+fits+" c: CHAR; d: @Z; END Q;"))
		if x.bytes > 0 {
			mustFault(t, api.ErrSize, moduleOf(types+"@"+head+full+"; END Q;"))
		}
	}
	mustPass(t, moduleOf("PROCEDURE Q; VAR "+full+"; END Q; PROCEDURE S; VAR "+full+"; END S;"))
	mustPass(t, moduleOf("PROCEDURE Q; VAR "+full+"; c: RECORD END; END Q;"))
	mustFault(t, api.ErrSize, moduleOf("@PROCEDURE Q(): INTEGER; VAR "+full+"; c: CHAR; END Q;"))
	params := make([]string, api.MaxList)
	for i := range params {
		params[i] = fmt.Sprint("p", i)
	}
	all := strings.Join(params, ", ")
	mustPass(t, moduleOf("PROCEDURE Q("+all+": ARRAY OF CHAR); VAR a: ARRAY 4096 OF SET; b: ARRAY 3968 OF SET; END Q;"))
	mustFault(t, api.ErrSize, moduleOf("@PROCEDURE Q("+all+": ARRAY OF CHAR); VAR a: ARRAY 4096 OF SET; b: ARRAY 3968 OF SET; c: CHAR; END Q;"))
}
