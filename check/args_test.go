package check

import (
	"fmt"
	"math"
	"strings"
	"testing"

	"spinet/api"
	"spinet/iface"
	"spinet/symfile"
)

func mustRefuse(t *testing.T, what string, m api.Module, l ...api.Face) {
	t.Helper()
	f, fault := Check(m, l)
	if fault != (api.Fault{Code: api.ErrArg}) || !iface.Same(f, api.Face{}) {
		t.Errorf("P18.1: %s: %v, %v", what, fault, f)
	}
}

// P18.1: what is no module. Its faults are not looked at, nor its place.
func TestNoModules(t *testing.T) {
	good := func() api.Module { return parsed(t, body("i := 1; E")) }
	for _, x := range []struct {
		what   string
		change func(m *api.Module)
	}{
		{"nothing", func(m *api.Module) { *m = api.Module{} }},
		{"a place alone", func(m *api.Module) { *m = api.Module{At: 7} }},
		{"no name", func(m *api.Module) { m.Name = "" }},
		{"a keyword", func(m *api.Module) { m.Name = "END" }},
		{"a name that is too long", func(m *api.Module) { m.Name = strings.Repeat("n", api.MaxName+1) }},
		{"a constant's name", func(m *api.Module) { m.Consts[0].Name = "1" }},
		{"a kind of type that is none", func(m *api.Module) { m.Types[0].Type.Kind = 7 }},
		{"an open array elsewhere", func(m *api.Module) {
			m.Vars[0].Type = api.Texpr{Kind: api.TxOpen, Elem: []api.Texpr{{Kind: api.TxName, Name: "CHAR"}}}
		}},
		{"a kind of expression that is none", func(m *api.Module) { m.Body[0].Exprs[1].Kind = 15 }},
		{"a kind of expression that is none, far off", func(m *api.Module) { m.Body[0].Exprs[1].Kind = math.MinInt }},
		{"a range as a value", func(m *api.Module) { m.Body[0].Exprs[1] = api.Expr{Kind: api.ExRange, Args: m.Body[0].Exprs} }},
		{"no Args", func(m *api.Module) { m.Body[0].Exprs[1] = api.Expr{Kind: api.ExBinary, Op: "+"} }},
		{"an operation that is none", func(m *api.Module) {
			m.Body[0].Exprs[1] = api.Expr{Kind: api.ExUnary, Op: "*", Args: m.Body[0].Exprs[:1]}
		}},
		{"a number that is too great", func(m *api.Module) { m.Body[0].Exprs[1].N = 1 << 31 }},
		{"a kind of statement that is none", func(m *api.Module) { m.Body[0].Kind = 8 }},
		{"an assignment to a number", func(m *api.Module) { m.Body[0].Exprs[0] = m.Body[0].Exprs[1] }},
		{"a statement without a part", func(m *api.Module) { m.Body[0].Exprs = m.Body[0].Exprs[:1] }},
		{"labels elsewhere", func(m *api.Module) { m.Body[0].Labels = [][]api.Expr{m.Body[0].Exprs} }},
		{"two results", func(m *api.Module) { m.Procs[1].Return = append(m.Procs[1].Return, m.Procs[1].Return...) }},
		{"an export in a procedure", func(m *api.Module) {
			m.Procs[0].Consts = []api.Const{{Name: "c", Export: true, Value: m.Body[0].Exprs[1]}}
		}},
		{"too many procedures", func(m *api.Module) {
			for len(m.Procs) <= api.MaxList {
				m.Procs = append(m.Procs, api.Proc{Name: fmt.Sprint("P", len(m.Procs))})
			}
		}},
		{"too deep", func(m *api.Module) {
			for range api.MaxNest {
				m.Body[0].Exprs[1] = api.Expr{Kind: api.ExUnary, Op: "-", Args: []api.Expr{m.Body[0].Exprs[1]}}
			}
		}},
		{"far too many nodes", func(m *api.Module) {
			e := m.Body[0].Exprs[1]
			for range 60 {
				e = api.Expr{Kind: api.ExBinary, Op: "+", Args: []api.Expr{e, e}}
			}
			m.Body[0].Exprs[1] = e
		}},
		{"far too many statements", func(m *api.Module) { m.Body = make([]api.Stat, 1<<20) }},
	} {
		m := good()
		x.change(&m)
		mustRefuse(t, x.what, m, libFace(t))
		m.Imports = []api.Import{{Alias: "Z", Name: "Z", At: 3}}
		mustRefuse(t, x.what+", and an import", m)
	}
}

// P18.1: interfaces, imported or not.
func TestNoInterfaces(t *testing.T) {
	lf := libFace(t)
	for _, s := range []string{"MODULE A; IMPORT L; END A.", "MODULE A; END A.", "MODULE A; IMPORT Z; BEGIN z END A."} {
		m := parsed(t, s)
		for _, x := range []struct {
			what   string
			change func(f *api.Face)
		}{
			{"nothing", func(f *api.Face) { *f = api.Face{} }},
			{"no name", func(f *api.Face) { f.Name = "" }},
			{"a key and one", func(f *api.Face) { f.Key++ }},
			{"the key 0", func(f *api.Face) { f.Key = 0 }},
			{"another name", func(f *api.Face) { f.Name = "K" }},
			{"no types", func(f *api.Face) { f.Types = nil }},
			{"an object less", func(f *api.Face) { f.Objs = f.Objs[1:] }},
			{"an object twice", func(f *api.Face) { f.Objs = append(f.Objs[:len(f.Objs):len(f.Objs)], f.Objs[0]) }},
			{"itself among its Uses", func(f *api.Face) { f.Uses = []api.Used{{Name: "L"}} }},
		} {
			f := lf
			x.change(&f)
			mustRefuse(t, x.what, m, f)
			mustRefuse(t, x.what+", behind a good one", m, lf, f)
			mustRefuse(t, x.what+", ahead of a good one", m, f, lf)
			if key, err := symfile.Key(f); err == api.OK && key != lf.Key {
				f.Key = key
				if _, fault := Check(m, faces{f, lf}); fault.Code == api.ErrArg {
					t.Errorf("P18.1: %s, with its right key: %v", x.what, fault)
				}
			}
		}
	}
	many := make(faces, api.MaxMods)
	for i := range many {
		many[i] = lf
	}
	mustPass(t, "MODULE A; IMPORT L; END A.", many...)
	mustRefuse(t, "one more than MaxMods", parsed(t, "MODULE A; IMPORT L; END A."), append(many, lf)...)
	mustRefuse(t, "far more than MaxMods", parsed(t, "MODULE A; IMPORT L; END A."), make(faces, 1000)...)
	mustPass(t, "MODULE A; END A.", faces{}...)
	// Good, but no symbol file could hold it: no key is its own.
	long := long(t)
	mustRefuse(t, "an interface that is too long", parsed(t, "MODULE A; END A."), long)
}

func long(t *testing.T) api.Face {
	f := mustPass(t, "MODULE M; TYPE R0* = RECORD "+strings.TrimSuffix(listed(60, "aaaaaaaaaaaaaaaaaaaaaa%d, "), ", ")+": CHAR END; END M.")
	for i := 1; i < api.MaxDesc; i++ {
		x := f.Types[basics]
		x.Name, x.Desc = fmt.Sprint("R", i), i
		f.Types = append(f.Types, x)
	}
	for range 70 {
		x := f.Types[basics]
		x.Mod, x.Name, x.Desc = "N", fmt.Sprint("R", len(f.Types)), len(f.Types)%api.MaxDesc
		if len(f.Types) >= basics+2*api.MaxDesc {
			break
		}
		f.Types = append(f.Types, x)
	}
	f.Uses = []api.Used{{Name: "N"}}
	if !iface.Good(f) {
		t.Fatal("no interface")
	}
	if _, err := symfile.Key(f); err == api.OK {
		t.Fatal("not too long")
	}
	return f
}

// Interfaces that no module shows: whatever is in them, the call ends, with a
// fault or with what is an interface.
func TestStrangeInterfaces(t *testing.T) {
	record := func(mod, name string, desc, base int, l ...api.TyField) api.Ty {
		return api.Ty{Form: api.FmRecord, Mod: mod, Name: name, Desc: desc, Base: base, Fields: l}
	}
	typeObj := func(name string, a int) api.Obj { return objOf(api.ClType, name, a, 0) }
	field := api.TyField{Name: "a", Type: api.FmChar, Export: true}
	k := []api.Used{{Name: "K"}}
	// An open array with a name.
	open := keyed(t, api.Face{Name: "L", Types: with(api.Ty{Form: api.FmOpen, Mod: "L", Name: "O", Elem: api.FmChar}), Objs: []api.Obj{typeObj("O", 7)}})
	for _, x := range []faulty{
		{"VAR a: @L.O;", api.ErrName}, {"VAR a: ARRAY 2 OF @L.O;", api.ErrName}, {"VAR a: RECORD a: @L.O END;", api.ErrName}, {"TYPE T = POINTER TO @L.O;", api.ErrType}, {"TYPE T = PROCEDURE (): @L.O;", api.ErrType}, {"TYPE T = RECORD (@L.O) END;", api.ErrType}, {"TYPE T* = L.O; PROCEDURE P*(a: T; b: ARRAY OF T); BEGIN @b[0] := a END P;", api.ErrVar}, {"TYPE T* = L.O; PROCEDURE P*(a: T; VAR b: L.O); BEGIN b[0] := a[0] END P; BEGIN P(\"x\", @\"y\")", api.ErrVar}, {"TYPE T* = L.O; PROCEDURE P*(a: T; b: ARRAY OF T); END P;", 0},
	} {
		mustDo(t, x.code, "MODULE A; IMPORT L; "+x.s+" END A.", open)
	}
	// Types without names, by a name.
	bare := keyed(t, api.Face{Name: "L", Types: with(api.Ty{Form: api.FmArray, Len: 2, Elem: api.FmChar}, record("L", "", 0, 0, field)), Objs: []api.Obj{typeObj("A", 7), typeObj("R", 8)}})
	f := mustPass(t, "MODULE A; IMPORT L; TYPE B* = L.A; R* = L.R; VAR a*: B; b*: L.A; r*: R; s*: L.R; BEGIN a := b; r := s; r.a := 1X END A.", bare)
	if x := f.Types[7]; x.Mod != "A" || x.Name != "B" {
		t.Errorf("P18.1: a type without a name got none: %+v", x)
	}
	// Two that contradict each other.
	one := api.Face{Name: "L", Uses: k, Types: with(record("K", "R", 0, 0, field), record("K", "S", 1, 7)), Objs: []api.Obj{typeObj("R", 7), typeObj("S", 8)}}
	for _, types := range [][]api.Ty{
		{record("K", "R", 0, 0), record("K", "S", 1, 7, field)},
		{record("K", "S", 0, 0, field), record("K", "R", 1, 7)},
		{record("K", "R", 1, 0), record("K", "S", 0, 7, field)},
		{record("K", "R", 2, 0), record("K", "S", 3, 7)},
		{{Form: api.FmArray, Mod: "K", Name: "R", Len: 2, Elem: api.FmChar}, {Form: api.FmPointer, Mod: "K", Name: "S", Elem: 9}, record("K", "", 0, 0)},
		{{Form: api.FmPointer, Mod: "K", Name: "S", Elem: 9}, {Form: api.FmProc, Mod: "K", Name: "R", Result: 7}, record("K", "", 1, 0)},
	} {
		two := api.Face{Name: "M", Uses: k, Types: with(types...), Objs: []api.Obj{typeObj("R", 7), typeObj("S", 8)}}
		l := faces{keyed(t, one), keyed(t, two)}
		for _, names := range []string{"L.R M.R", "L.S M.S", "L.R M.S", "L.S M.R", "M.R L.R", "M.S L.S", "M.R L.S", "M.S L.R", "L.R L.S M.R M.S", "M.S M.R L.S L.R"} {
			s := "MODULE A; IMPORT L, M; VAR "
			for i, name := range strings.Fields(names) {
				s += fmt.Sprintf("v%d*: %s; w%[1]d: %[2]s; ", i, name)
			}
			s += "BEGIN v0 := w0; v1 := w1 END A."
			if f, fault := Check(parsed(t, s), l); fault.Code == api.OK {
				mustBeSound(t, f)
			} else if fault.At < 0 || fault.At >= len(s) {
				t.Errorf("P18.1: %s: %v", s, fault)
			}
		}
	}
}

// Told where the table would be no good one any more, whether or not what stands
// there is exported.
func TestContradictingInterfaces(t *testing.T) {
	record := func(desc, base int, l ...api.TyField) api.Ty {
		return api.Ty{Form: api.FmRecord, Mod: "K", Desc: desc, Base: base, Fields: l}
	}
	field := api.TyField{Name: "a", Type: api.FmChar, Export: true}
	both := func(name string, l ...api.Ty) api.Face {
		return keyed(t, api.Face{Name: name, Uses: []api.Used{{Name: "K"}}, Types: with(l...), Objs: []api.Obj{objOf(api.ClType, "R", 7, 0), objOf(api.ClType, "S", 8, 0), objOf(api.ClVar, "v", 8, 0)}})
	}
	l, m := both("L", record(0, 0, field), record(1, 7)), both("M", record(0, 0), record(1, 7, field))
	for _, x := range []faulty{
		{"VAR x: L.R; y: @M.S;", api.ErrFace}, {"VAR x: M.R; y: M.S;", 0}, {"VAR x: L.R; BEGIN x.a := @M.v.a", api.ErrFace}, {"VAR x: M.R; y: L.S;", 0}, {"VAR x: L.R; b: BOOLEAN; PROCEDURE P(VAR r: L.R); BEGIN b := r IS @M.S END P;", api.ErrFace}, {"TYPE T = RECORD (L.R) END; P = POINTER TO @M.S;", api.ErrFace}, {"VAR x: L.S; y: M.S;", 0},
	} {
		mustDo(t, x.code, "MODULE A; IMPORT L, M; "+x.s+" END A.", l, m)
	}
}
