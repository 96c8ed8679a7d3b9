package check

import (
	"strings"
	"testing"

	"spinet/api"
	"spinet/iface"
	"spinet/symfile"
	"spinet/tree"
)

type (
	faces = []api.Face
	tys   = []api.Ty
)

func parsed(t *testing.T, s string) api.Module {
	t.Helper()
	m, at, err := tree.Parse(s)
	if err != api.OK {
		t.Fatalf("%v at %d: %.200s", err, at, s[at:])
	}
	return m
}

// short is the part of a source around a place.
func short(s string, at int) string {
	at = min(max(at, 0), len(s))
	return s[max(0, at-60):at] + "@" + s[at:min(len(s), at+60)]
}

// mustFault wants the fault at the @ of the source.
func mustFault(t *testing.T, code api.Errno, s string, l ...api.Face) {
	t.Helper()
	at := strings.IndexByte(s, '@')
	if at < 0 || strings.Count(s, "@") != 1 {
		t.Fatalf("not one @: %s", s)
	}
	s = strings.Replace(s, "@", "", 1)
	want := api.Fault{Code: code, At: at}
	f, got := Check(parsed(t, s), l)
	if got != want {
		t.Errorf("P18.1: %v, not %v, at %s", got, want, short(s, at))
	}
	if !iface.Same(f, api.Face{}) {
		t.Errorf("P18.1: an interface beside a fault: %s", short(s, at))
	}
}

// mustPass wants no fault, and answers the interface.
func mustPass(t *testing.T, s string, l ...api.Face) api.Face {
	t.Helper()
	f, fault := Check(parsed(t, s), l)
	if fault != (api.Fault{}) {
		t.Errorf("P18.1: %v at %s", fault, short(s, fault.At))
		return f
	}
	mustBeSound(t, f)
	return f
}

func mustBeSound(t *testing.T, f api.Face) {
	t.Helper()
	key, err := symfile.Key(f)
	if !iface.Good(f) || err != api.OK || key != f.Key {
		t.Errorf("P18.1: %s: no interface with its key: %v", f.Name, f)
	}
	if again, err := iface.Trim(f); err != api.OK || !iface.Same(again, f) {
		t.Errorf("P18.1: %s: not trimmed: %v", f.Name, f)
	}
}

// mustDo wants a fault at the @, or none, if there is none.
func mustDo(t *testing.T, code api.Errno, s string, l ...api.Face) {
	t.Helper()
	if code != api.OK {
		mustFault(t, code, s, l...)
	} else {
		mustPass(t, s, l...)
	}
}

// A lib is imported by most of the modules here.
const lib = `MODULE L; CONST k* = 7; one* = "x"; hid = 1;
TYPE R* = RECORD a*, b: INTEGER; r*: RECORD i*: INTEGER END END; E* = RECORD (R) e*: CHAR END; P* = POINTER TO R; PE* = POINTER TO E;
H = RECORD x*: P; y: P; l*: ARRAY 3 OF R END; Num* = INTEGER; F* = PROCEDURE (x: INTEGER): INTEGER; T = RECORD END; T8* = ARRAY 8 OF CHAR;
VAR v*: INTEGER; h*: H; w: INTEGER; t*: T8; p*: P; f*: F; b*: BOOLEAN; s*: SET; c*: CHAR; e*: E;
PROCEDURE Fn*(x: INTEGER): INTEGER; RETURN x END Fn;
PROCEDURE G*(VAR r: R; t: ARRAY OF CHAR); END G; PROCEDURE No; END No; PROCEDURE Go*; END Go; END L.`

func libFace(t *testing.T) api.Face {
	t.Helper()
	return mustPass(t, lib)
}

// The declarations that most statements here are about.
const decls = `MODULE A; IMPORT L; CONST c3 = 3; cOne = "x"; cTwo = "xy"; cNone = ""; cCh = 41X; cYes = TRUE; cSet = {1, 5}; cNil = NIL; cNeg = -1;
TYPE T0 = RECORD f: INTEGER; g: CHAR; p: POINTER TO T0 END; T1 = RECORD (T0) h: SET END; T2 = RECORD (T1) END; U = RECORD f: INTEGER END;
P0 = POINTER TO T0; P1 = POINTER TO T1; P2 = POINTER TO T2; PU = POINTER TO U;
A5 = ARRAY 5 OF INTEGER; S8 = ARRAY 8 OF CHAR; S1 = ARRAY 1 OF CHAR; M = ARRAY 2, 3 OF INTEGER; F0 = PROCEDURE; F1 = PROCEDURE (x: INTEGER): INTEGER; FB = PROCEDURE (): BOOLEAN; FP = PROCEDURE (): P1;
X = RECORD (L.R) z: INTEGER END; Num = INTEGER;
VAR i, j: INTEGER; b: BOOLEAN; ch: CHAR; s: SET; r0: T0; r1: T1; r2: T2; u: U; p0: P0; p1: P1; p2: P2; pu: PU;
a: A5; t: S8; t1: S1; m: M; f0: F0; f1: F1; fb: FB; fp: FP; x: X; lp: L.P; le: L.PE; rec: RECORD p: P0; f: F0; a: A5; r: T1 END; ar: ARRAY 3 OF T0; ap: ARRAY 3 OF P0;
`

const procs = `PROCEDURE E; END E; PROCEDURE Fn(x: INTEGER): INTEGER; RETURN x END Fn; PROCEDURE FnB(): BOOLEAN; RETURN TRUE END FnB; PROCEDURE FnP(): P1; RETURN NIL END FnP; PROCEDURE FnF(): F0; RETURN E END FnF;
PROCEDURE FnC(): CHAR; RETURN "c" END FnC; PROCEDURE FnS(): SET; RETURN {} END FnS; PROCEDURE One(x: INTEGER); END One;
`

// body is a module whose body is that.
func body(stats string) string {
	return decls + procs + "BEGIN " + stats + " END A."
}

// within is a module with a procedure, all kinds of parameters, whose body is
// that.
func within(stats string) string {
	return decls + procs + `PROCEDURE Q(n: INTEGER; VAR v: INTEGER; o: ARRAY OF INTEGER; VAR w: ARRAY OF CHAR; oc: ARRAY OF CHAR; r: T0; VAR q: T0; y: A5; VAR z: A5; p: P0; VAR pp: P0; oo: ARRAY OF ARRAY OF INTEGER; VAR lr: L.R; k: BOOLEAN; d: CHAR; VAR vd: CHAR);
BEGIN ` + stats + " END Q; PROCEDURE Later; END Later; END A."
}

type faulty struct {
	s    string
	code api.Errno
}

// eachIn lays each text into the frame and wants its fault.
func eachIn(t *testing.T, frame func(string) string, l []faulty) {
	t.Helper()
	lf := libFace(t)
	for _, x := range l {
		mustDo(t, x.code, frame(x.s), lf)
	}
}

// keyed is f with the key that it must have.
func keyed(t *testing.T, f api.Face) api.Face {
	t.Helper()
	key, err := symfile.Key(f)
	if err != api.OK {
		t.Fatalf("no interface: %v: %v", err, f)
	}
	f.Key = key
	return f
}
