package check

import (
	"strings"
	"testing"

	"spinet/api"
)

// P18.1: calls of procedures.
func TestCalls(t *testing.T) {
	eachIn(t, body, []faulty{
		{"E; E(); One(1); f0; f0(); rec.f; rec.f(); i := Fn(1) + f1(2) + L.Fn(3); b := FnB() & fb(); p1 := FnP(); p1 := fp(); f0 := FnF(); i := Fn(Fn(f1(L.f(i))))", 0},
		{"@E(1)", api.ErrCount}, {"@One()", api.ErrCount}, {"@One(1, 2)", api.ErrCount}, {"i := @Fn()", api.ErrCount}, {"i := @Fn(1, 2)", api.ErrCount}, {"@f0(1)", api.ErrCount}, {"i := @Fn(zz, 1)", api.ErrCount}, {"i := @L.Fn()", api.ErrCount}, {"b := @FnB(b)", api.ErrCount},
		{"i := @Fn(1)(2)", api.ErrType}, {"i := @i(1)", api.ErrType}, {"i := @r0(1)", api.ErrType}, {"i := @a(1)", api.ErrType}, {"i := @NIL + 1", api.ErrType}, {"i := @cNil(1)", api.ErrType}, {"i := @E()(1)", api.ErrType}, {"FnF()()", 0}, {"@FnF()(1)", api.ErrCount}, {"i := @zz(1)", api.ErrName}, {"i := @i(zz)", api.ErrType}, {"i := @L(1)", api.ErrType}, {"i := @T0(1)", api.ErrType}, {"i := @L.zz(1)", api.ErrName}, {"i := @L.R(1)", api.ErrType},
		{"i := Fn(@b)", api.ErrType}, {"i := Fn(@zz)", api.ErrName}, {"i := Fn(@E())", api.ErrType}, {"i := Fn(@Fn)", api.ErrType}, {"i := Fn(@L)", api.ErrName}, {"i := Fn(@ABS)", api.ErrName}, {"i := Fn(@\"a\")", api.ErrType}, {"One(@ch)", api.ErrType}, {"i := @E()", api.ErrType}, {"i := i + @E()", api.ErrType}, {"b := ~@E()", api.ErrType}, {"i := ABS(@L.Go())", api.ErrType}, {"@i := E", api.ErrType}, {"@b := Fn(1)", api.ErrType},
		{"L.G(L.h.x^, t); L.G(lp^, \"text\"); L.G(le^, \"\"); L.G(x, \"x\"); L.G(x, t1)", 0}, {"L.G(@L.h.l[0], t)", api.ErrVar}, {"L.G(@r0, t)", api.ErrType}, {"L.G(x, @1X)", api.ErrType}, {"L.G(x, @a)", api.ErrType}, {"L.G(@lp, t)", api.ErrType}, {"@L.G(x)", api.ErrCount},
	})
}

// given is an expression that is handed over: a word for its type, and whether it
// is a variable, and a read only one.
type given struct {
	text, kind string
}

// P18.1: each parameter with each thing that is handed over to it.
func TestHandedOver(t *testing.T) {
	things := []given{
		{"i", "int var"}, {"5", "int"}, {"L.v", "int var read"}, {"n", "int var"}, {"vi", "int var"}, {"a[1]", "int var"}, {"ca[1]", "int var read"}, {"Fn(1)", "int"},
		{"b", "bool var"}, {"TRUE", "bool"}, {"ch", "char var"}, {"1X", "char"}, {"t[1]", "char var"}, {"L.t[0]", "char var read"}, {`"x"`, "text"}, {`"xy"`, "text"}, {`""`, "text"}, {"cOne", "text"}, {"s", "set var"}, {"{1}", "set"}, {"{i}", "set"},
		{"NIL", "nil"}, {"p0", "p0 var"}, {"p1", "p1 var"}, {"pu", "pu var"}, {"FnP()", "p1"}, {"p0(P1)", "p1 var"},
		{"f0", "f0 var"}, {"E", "f0"}, {"Fn", "f1"}, {"f1", "f1 var"}, {"FnF()", "f0"},
		{"a", "A5 var"}, {"ca", "A5 var read"}, {"rec.a", "A5 var"}, {"m[1]", "ints3 var"}, {"m", "M var"}, {"t", "S8 var"}, {"t1", "S1 var"}, {"L.t", "T8 var read"}, {"o", "ints var read"}, {"vo", "ints var"}, {"oc", "chars var read"}, {"oo", "open var read"}, {"oo[0]", "ints var read"}, {"voo", "open var"},
		{"r0", "t0 var"}, {"r1", "t1 var"}, {"r2", "t2 var"}, {"cr", "t0 var read"}, {"vr", "t0 var"}, {"u", "u var"}, {"p1^", "t1 var"}, {"rec.r", "t1 var"}, {"ar[0]", "t0 var"}, {"L.e", "le var read"}, {"x", "x var"}, {"vr(T1)", "t1 var"},
		{"E()", "!type"}, {"INTEGER", "!name"}, {"L", "!name"}, {"T0", "!name"}, {"ABS", "!name"}, {"zz", "!gone"},
	}
	// What fits each without Var, and of a Var.
	params := []struct{ typ, fits, varFits string }{
		{"INTEGER", "int", "int"}, {"BOOLEAN", "bool", "bool"}, {"CHAR", "char", "char"}, {"SET", "set", "set"},
		{"P0", "p0 p1 nil", "p0"}, {"P1", "p1 nil", "p1"}, {"F0", "f0 nil", "f0"}, {"F1", "f1 nil", "f1"},
		{"T0", "t0 t1 t2", "t0 t1 t2"}, {"T1", "t1 t2", "t1 t2"}, {"U", "u", "u"}, {"L.R", "le x", "le x"},
		{"A5", "A5", "A5"}, {"S8", "S8", "S8"}, {"M", "M", "M"},
		{"ARRAY OF INTEGER", "A5 ints3 ints", "A5 ints3 ints"}, {"ARRAY OF CHAR", "S8 S1 T8 chars text", "S8 S1 T8 chars"}, {"ARRAY OF ARRAY OF INTEGER", "M open", "M open"}, {"ARRAY OF T0", "ar", "ar"}, {"ARRAY OF BOOLEAN", "", ""},
	}
	lf := libFace(t)
	for _, p := range params {
		for _, mode := range []string{"", "VAR "} {
			fits := p.fits
			if mode != "" {
				fits = p.varFits
			}
			for _, x := range things {
				mustDo(t, handedFault(fits, mode != "", strings.Fields(x.kind)), decls+procs+"PROCEDURE Z("+mode+"z: "+p.typ+"); END Z; PROCEDURE Q(n: INTEGER; VAR vi: INTEGER; ca: A5; o: ARRAY OF INTEGER; VAR vo: ARRAY OF INTEGER; oc: ARRAY OF CHAR; oo: ARRAY OF ARRAY OF INTEGER; VAR voo: ARRAY OF ARRAY OF INTEGER; cr: T0; VAR vr: T0); BEGIN Z("+
					atFault(handedFault(fits, mode != "", strings.Fields(x.kind)))+x.text+") END Q; END A.", lf)
			}
		}
	}
}

func atFault(code api.Errno) string {
	if code == api.OK {
		return ""
	}
	return "@"
}

// handedFault is by the document: of a Var a variable first, then its type, then
// that it may be written to.
func handedFault(fits string, isVar bool, kind []string) api.Errno {
	switch {
	case kind[0] == "!gone":
		return api.ErrName
	case isVar && len(kind) < 2:
		return api.ErrVar
	case kind[0] == "!name":
		return api.ErrName
	case !has(fits, kind[0]):
		return api.ErrType
	case isVar && len(kind) == 3:
		return api.ErrVar
	}
	return api.OK
}

// P18.1: what parameters are within their procedure.
func TestParameters(t *testing.T) {
	eachIn(t, within, []faulty{
		{"n := 1; v := 2; w[0] := 0X; q.f := 3; q := r; q := r1; z[0] := 1; z := y; z := a; a := y; p := p1; pp := p; pp := NIL; p.f := 1; pp^ := r0; k := FALSE; d := 1X; vd := d; lr.a := 1; r0 := r", 0},
		{"@o[0] := 1", api.ErrVar}, {"@oc[0] := 1X", api.ErrVar}, {"@oo[0, 0] := 1", api.ErrVar}, {"@r.f := 1", api.ErrVar}, {"@r := r0", api.ErrVar}, {"@y := a", api.ErrVar}, {"@y[0] := 1", api.ErrVar}, {"@r.p := NIL", api.ErrVar}, {"r.p.f := 1", 0}, {"r.p^ := r0", 0}, {"@oo[0][1] := 1", api.ErrVar}, {"INC(@r.f)", api.ErrVar}, {"INC(@y[1])", api.ErrVar}, {"INC(z[1])", 0}, {"INC(q.f)", 0}, {"NEW(@r.p)", api.ErrVar}, {"NEW(q.p)", 0}, {"NEW(p); NEW(pp)", 0}, {"READ(@oc[0])", api.ErrVar}, {"READ(w[0])", 0}, {"INC(@o[n])", api.ErrVar},
		{"a := o; z := o; t := w; t := oc", 0}, {"@a := w", api.ErrType}, {"@w := t", api.ErrType}, {"@w := w", api.ErrType}, {"@w := \"a\"", api.ErrType}, {"@o := a", api.ErrVar}, {"@o := o", api.ErrVar}, {"@oc := t", api.ErrVar}, {"m[0] := o", 0}, {"@m := oo", api.ErrType}, {"m[0] := oo[0]", 0}, {"@a := oo", api.ErrType},
		{"v := LEN(o) + LEN(w) + LEN(oo) + LEN(oo[0]) + LEN(y) + LEN(z)", 0}, {"v := LEN(@r)", api.ErrType}, {"b := w = oc; b := w < \"abc\"; b := oc # t; b := \"a\" = w; b := w = w", 0}, {"b := @w = d", api.ErrType}, {"b := @o = o", api.ErrType}, {"b := d = \"a\"", 0},
		{"FOR n := 0 TO 3 DO END", 0}, {"@FOR v := 0 TO 3 DO END", api.ErrVar}, {"FOR i := 0 TO v DO END", 0}, {"@FOR k := 0 TO 3 DO END", api.ErrVar}, {"@FOR vd := 0 TO 3 DO END", api.ErrVar},
		{"Q(n, n, o, w, oc, r, q, y, z, p, pp, oo, lr, k, d, d)", 0}, {"Q(n, n, y, w, w, q, q, z, z, p, p, m, lr, k, d, vd)", 0}, {"Q(n, n, o, @oc, oc, r, q, y, z, p, pp, oo, lr, k, d, d)", api.ErrVar}, {"Q(n, n, o, w, oc, r, @r, y, z, p, pp, oo, lr, k, d, d)", api.ErrVar}, {"Q(n, n, o, w, oc, r, q, y, @y, p, pp, oo, lr, k, d, d)", api.ErrVar}, {"Q(n, @o[0], o, w, oc, r, q, y, z, p, pp, oo, lr, k, d, d)", api.ErrVar}, {"Q(n, n, o, w, oc, r, q, y, z, p, @p1, oo, lr, k, d, d)", api.ErrType}, {"Q(n, n, o, w, oc, r, q, y, z, p1, pp, oo, @x.r, k, d, d)", api.ErrType}, {"Q(n, n, o, w, oc, r2, r2, y, z, NIL, pp, oo, x, ~k, 1X, d)", 0}, {"Q(n, n, o, w, oc, r2, r2, y, z, NIL, pp, oo, x, ~k, @\"x\", d)", api.ErrType}, {"@Later", api.ErrName},
	})
}
