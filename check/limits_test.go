package check

import (
	"fmt"
	"slices"
	"strings"
	"testing"

	"spinet/api"
)

// listed is n declarations, by their numbers.
func listed(n int, format string) string {
	b := &strings.Builder{}
	for i := range n {
		fmt.Fprintf(b, format, i)
	}
	return b.String()
}

// P18.1: a table of just MaxTypes, and of one more: at the type expression.
func TestFullTable(t *testing.T) {
	lf := libFace(t)
	for _, x := range []struct {
		n    int // how many types the rest has, the last of them at the @
		rest string
	}{
		{1, "T = @ARRAY 2 OF CHAR;"}, {2, "T = @ARRAY 2, 3 OF CHAR;"}, {3, "T = @ARRAY 2, 3, 4 OF CHAR;"}, {1, "T = @RECORD END;"}, {1, "T = @PROCEDURE;"}, {1, "T = INTEGER; VAR a: @RECORD END;"},
		{2, "T = @POINTER TO RECORD END;"}, {2, "T = POINTER TO R; R = @RECORD END;"}, {2, "R = RECORD END; T = @POINTER TO R;"}, {2, "R = RECORD END; S = R; VAR p: @POINTER TO S;"},
		{2, "T = @RECORD a: ARRAY 2 OF CHAR END;"}, {3, "T = @RECORD a: ARRAY 2 OF CHAR; b: ARRAY 3 OF CHAR END;"}, {2, "T = @PROCEDURE (a: ARRAY OF CHAR);"}, {3, "T = @PROCEDURE (a: ARRAY OF ARRAY OF CHAR);"}, {2, "T = @ARRAY 2 OF RECORD END;"}, {2, "VAR a: ARRAY 2 OF CHAR; b: @ARRAY 2 OF CHAR;"},
		{1, "@PROCEDURE P; END P;"}, {1, "@PROCEDURE P(a: INTEGER); END P;"}, {2, "@PROCEDURE P(a: ARRAY OF CHAR); END P;"}, {2, "PROCEDURE P; VAR a: @RECORD END; END P;"}, {2, "PROCEDURE P; TYPE T = @RECORD END; END P;"}, {2, "PROCEDURE P; END P; @PROCEDURE Q; END Q;"},
		{1, "VAR a: @L.T8;"}, {2, "VAR a: @L.R;"}, {3, "VAR a: @L.P;"}, {3, "VAR a: L.T8; b: @L.R;"}, {1, "VAR a: @L.F;"}, {3, "VAR a: ARRAY 2 OF CHAR; b: @L.R;"},
		{1, "BEGIN ASSERT(LEN(@L.t) = 8)"}, {1, "BEGIN @L.Go"}, {1, "BEGIN @L.Go()"}, {1, "BEGIN ASSERT(@L.Fn(1) = 1)"}, {2, "BEGIN ASSERT(LEN(L.t) + @L.f(1) = 1)"}, {5, "VAR p: L.P; BEGIN ASSERT(p IS @L.PE)"}, {5, "VAR p: L.P; BEGIN p := p(@L.PE)"},
	} {
		for room := range x.n + 1 {
			s := strings.Replace("MODULE A; IMPORT L; TYPE "+fillers(api.MaxTypes-basics-room)+x.rest+" END A.", "TYPE VAR", "VAR", 1)
			switch room {
			case x.n:
				mustPass(t, strings.Replace(s, "@", "", 1), lf)
			case x.n - 1:
				mustFault(t, api.ErrMany, s, lf)
			default:
				if _, fault := Check(parsed(t, strings.Replace(s, "@", "", 1)), faces{lf}); fault.Code != api.ErrMany {
					t.Errorf("P18.1: %s with room for %d: %v", x.rest, room, fault)
				}
			}
		}
	}
}

// P18.1: a full table, and the first type of many that is one more.
func TestNoRoomForTheFirst(t *testing.T) {
	lf := libFace(t)
	for _, rest := range []string{
		"T = @POINTER TO R; R = RECORD END;", "T = PROCEDURE (a: @ARRAY OF CHAR);", "T = PROCEDURE (a: ARRAY OF @ARRAY OF CHAR);", "T = POINTER TO @RECORD END;", "T = RECORD a: @ARRAY 2 OF CHAR END;", "T = ARRAY 2 OF @RECORD END;", "T = RECORD p: @POINTER TO T END;", "PROCEDURE P(a: @ARRAY OF CHAR); END P;", "VAR a: ARRAY 2 OF @L.P;",
	} {
		mustFault(t, api.ErrMany, "MODULE A; IMPORT L; "+strings.Replace("TYPE "+fillers(api.MaxTypes-basics)+rest+" END A.", "TYPE VAR", "VAR", 1), lf)
	}
}

// P18.1: the 65th record of the module's own. Imported ones are not counted.
func TestRecordsOfOnesOwn(t *testing.T) {
	lf := libFace(t)
	const most = api.MaxDesc
	mustPass(t, moduleOf("TYPE "+listed(most, "T%d = RECORD END; ")))
	mustFault(t, api.ErrMany, moduleOf("TYPE "+listed(most, "T%d = RECORD END; ")+"VAR v: @RECORD END;"))
	mustFault(t, api.ErrMany, moduleOf("TYPE "+listed(most-1, "T%d = RECORD END; ")+"T = @RECORD a: RECORD END END;"))
	mustFault(t, api.ErrMany, moduleOf("TYPE "+listed(most-1, "T%d = RECORD END; ")+"T = @RECORD a: RECORD END END; VAR z: Z;"))
	mustFault(t, api.ErrMany, moduleOf("TYPE "+listed(most, "T%d = RECORD END; ")+"PROCEDURE P; TYPE T = @RECORD END; END P;"))
	mustFault(t, api.ErrMany, moduleOf("TYPE "+listed(most, "T%d = RECORD END; ")+"VAR p: POINTER TO @RECORD END;"))
	mustPass(t, "MODULE A; IMPORT L; TYPE "+listed(most, "T%d = RECORD END; ")+"VAR a: L.R; b: L.E; c: L.P; T: T0; END A.", lf)
	f := mustPass(t, moduleOf("TYPE "+listed(most, "T%d* = RECORD END; ")))
	if x := f.Types[len(f.Types)-1]; x.Desc != most-1 {
		t.Errorf("P18.1: the last record is %+v", x)
	}
}

// P18.1: entries and objects.
func TestManyProcsAndObjs(t *testing.T) {
	const procs = "PROCEDURE P%d; END P%[1]d; "
	mustPass(t, moduleOf(listed(api.MaxEntry-1, procs)))
	mustFault(t, api.ErrMany, moduleOf(listed(api.MaxEntry-1, procs)+"@PROCEDURE Q; END Q;"))
	mustFault(t, api.ErrMany, moduleOf(listed(api.MaxEntry-1, procs)+"@PROCEDURE Q(a: Z); BEGIN z END Q;"))
	mustFault(t, api.ErrMany, moduleOf(listed(api.MaxEntry-1, procs)+"@PROCEDURE Q*; END Q; BEGIN z"))
	mustFault(t, api.ErrName, moduleOf(listed(api.MaxEntry-2, procs)+"PROCEDURE Q(a: @Z); END Q; PROCEDURE R; END R;"))
	f := mustPass(t, moduleOf(listed(api.MaxEntry-1, "PROCEDURE P%d*; END P%[1]d; ")))
	if len(f.Objs) != api.MaxEntry-1 || f.Objs[0].N != 1 || f.Objs[api.MaxEntry-2].N != api.MaxEntry-1 {
		t.Errorf("P18.1: entries %+v", f.Objs)
	}
	consts := "CONST " + listed(api.MaxObjs, "c%d* = 1; ")
	mustPass(t, moduleOf(consts))
	mustPass(t, moduleOf(consts+"TYPE T = CHAR; VAR v: CHAR; PROCEDURE P; END P; "))
	mustFault(t, api.ErrMany, moduleOf(consts+"TYPE @T* = CHAR;"))
	mustFault(t, api.ErrMany, moduleOf(consts+"TYPE T = CHAR; VAR @v*: CHAR;"))
	mustFault(t, api.ErrMany, moduleOf(consts+"@PROCEDURE P*; END P;"))
	mustFault(t, api.ErrMany, moduleOf(consts+"VAR v: CHAR; @w*: CHAR; z: Z;"))
	mustFault(t, api.ErrMany, moduleOf("TYPE "+listed(api.MaxObjs, "T%d* = CHAR; ")+"VAR @v*: CHAR;"))
	mustFault(t, api.ErrName, moduleOf("TYPE "+listed(api.MaxObjs, "T%d* = CHAR; ")+"VAR v: @Z; w*: CHAR;"))
	half := "CONST " + listed(32, "c%d* = 1; ") + "d = 2; TYPE " + listed(16, "T%d* = CHAR; ") + "VAR " + listed(8, "v%d*: CHAR; ") + "w: CHAR; " + listed(8, "PROCEDURE P%d*; END P%[1]d; ")
	f = mustPass(t, moduleOf(half))
	for i, o := range f.Objs {
		want := api.Obj{Class: api.ClProc, Name: fmt.Sprint("P", i-56), Type: 7, N: i - 55}
		switch {
		case i < 32:
			want = constOf(fmt.Sprint("c", i), api.FmInt, 1)
		case i < 48:
			want = objOf(api.ClType, fmt.Sprint("T", i-32), api.FmChar, 0)
		case i < 56:
			want = objOf(api.ClVar, fmt.Sprint("v", i-48), api.FmChar, i-48)
		default:
			want.Type = i - 56 + basics
		}
		if o != want {
			t.Errorf("P18.1: object %d is %+v, not %+v", i, o, want)
		}
	}
	mustFault(t, api.ErrMany, moduleOf(half+"@PROCEDURE Q*; END Q;"))
	vars := mustPass(t, moduleOf("VAR "+listed(api.MaxList, "v%d*: CHAR; ")))
	if vars.Objs[63].N != 63 {
		t.Errorf("P18.1: variable 63 is %+v", vars.Objs[63])
	}
}

// P18.1: no level has too many names.
func TestManyNames(t *testing.T) {
	var l faces
	var names []string
	for i := range api.MaxMods {
		l = append(l, mustPass(t, fmt.Sprintf("MODULE M%d; END M%[1]d.", i)))
		names = append(names, fmt.Sprint("M", i))
	}
	all := "IMPORT " + strings.Join(names, ", ") + "; CONST " + listed(64, "c%d = 1; ") + "TYPE " + listed(64, "T%d = CHAR; ") + "VAR " + listed(64, "v%d: CHAR; ") + listed(63, "PROCEDURE P%d; END P%[1]d; ")
	mustPass(t, moduleOf(all+"BEGIN v0 := v63; P0; P62; ASSERT(c0 = c63)"), l...)
	mustFault(t, api.ErrTwice, moduleOf(strings.Replace(all, "v63:", "@M0:", 1)), l...)
	mustFault(t, api.ErrTwice, moduleOf(strings.Replace(strings.Replace(all, "PROCEDURE P62", "@PROCEDURE M15", 1), "END P62", "END M15", 1)), l...)
	params := strings.TrimSuffix(listed(64, "p%d, "), ", ")
	inner := "CONST " + listed(64, "c%d = 1; ") + "TYPE " + listed(64, "T%d = CHAR; ") + "VAR " + listed(64, "v%d: CHAR; ")
	mustPass(t, moduleOf("PROCEDURE P("+params+": CHAR); "+inner+"BEGIN v63 := p0; v0 := p63 END P;"))
	mustFault(t, api.ErrTwice, moduleOf("PROCEDURE P("+params+": CHAR); "+strings.Replace(inner, "v63:", "@p0:", 1)+" END P;"))
}

// P18.1: an interface may be too long for a symbol file: at the module, at the
// very end.
func TestTooLong(t *testing.T) {
	var l faces
	fields := strings.TrimSuffix(listed(60, "aaaaaaaaaaaaaaaaaaaaaa%d, "), ", ")
	for k := range 6 {
		f := mustPass(t, fmt.Sprintf("MODULE M%d; TYPE R0* = RECORD %s: CHAR END; END M%[1]d.", k, fields))
		for i := 1; i < 25; i++ {
			x := f.Types[basics]
			x.Fields = slices.Clone(x.Fields)
			x.Name, x.Desc = fmt.Sprint("R", i), i
			f.Types = append(f.Types, x)
			f.Objs = append(f.Objs, api.Obj{Class: api.ClType, Name: x.Name, Type: len(f.Types) - 1})
		}
		l = append(l, keyed(t, f))
	}
	uses := func(n int) string {
		b := &strings.Builder{}
		for k := range n {
			for i := range 25 {
				fmt.Fprintf(b, "r%dx%d: M%[1]d.R%d; ", k, i, i)
			}
		}
		return b.String()
	}
	const head = "@MODULE A; IMPORT M0, M1, M2, M3, M4, M5; TYPE X* = RECORD %s END; Y* = RECORD %s END; END A."
	mustPass(t, fmt.Sprintf(head[1:], uses(2), ""), l...)
	mustFault(t, api.ErrLong, fmt.Sprintf(head, uses(2), strings.ReplaceAll(strings.ReplaceAll(uses(2), "M0", "M2"), "M1", "M3")), l...)
}
