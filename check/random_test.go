package check

import (
	"fmt"
	"math/rand"
	"strings"
	"testing"

	"spinet/api"
	"spinet/iface"
	"spinet/token"
	"spinet/tree"
)

// maker makes expressions and statements that are right, within the procedure of
// helpers_test.go. One of the operands may be another one instead.
type maker struct {
	r       *rand.Rand
	other   string // what takes the place of an operand, if any
	wait    int    // how many operands there are ahead of that one
	counted int
}

// one takes an operand for a constant or a variable of that kind.
func (g *maker) one(l ...string) string {
	g.counted++
	if g.other != "" && g.counted == g.wait {
		return g.other
	}
	return l[g.r.Intn(len(l))]
}

func (g *maker) make(kind string, depth int) string {
	if depth == 0 || g.r.Intn(5) == 0 {
		return g.leaf(kind)
	}
	x := func(kind string) string { return g.make(kind, depth-1) }
	n := g.r.Intn(7)
	switch kind {
	case "int":
		return []func() string{
			func() string { return "(" + x("int") + []string{" + ", " - ", " * "}[g.r.Intn(3)] + x("int") + ")" },
			func() string {
				return "(" + x("int") + []string{" DIV ", " MOD "}[g.r.Intn(2)] + g.one("3", "i", "n", "c3") + ")"
			},
			func() string { return "Fn(" + x("int") + ")" },
			func() string { return "ORD(" + x([]string{"bool", "char", "set"}[g.r.Intn(3)]) + ")" },
			func() string { return "LSL(" + x("int") + ", " + x("int") + ")" },
			func() string { return g.one("a", "y", "z", "o", "oo[1]", "m[0]") + "[ABS(i) + " + x("int") + "]" },
			func() string { return "(-" + x("int") + ")" },
		}[n]()
	case "bool":
		return []func() string{
			func() string {
				return "(" + x("bool") + []string{" & ", " OR ", " = ", " # "}[g.r.Intn(4)] + x("bool") + ")"
			},
			func() string { return "(~" + x("bool") + ")" },
			func() string { return "(" + x("int") + []string{" < ", " >= ", " = "}[g.r.Intn(3)] + x("int") + ")" },
			func() string { return "(" + x("char") + []string{" <= ", " > ", " # "}[g.r.Intn(3)] + x("char") + ")" },
			func() string { return "(i + " + x("int") + " IN " + x("set") + ")" },
			func() string { return "(" + x("ptr") + " = " + x("ptr") + ")" },
			func() string { return "(" + g.one("p0", "pp", "q.p", "ap[1]") + " IS " + g.one("P0", "P1", "P2") + ")" },
		}[n]()
	case "char":
		return []func() string{
			func() string { return "CHR(i + " + x("int") + ")" },
			func() string { return g.one("t", "w", "oc", "L.t", "t1") + "[ABS(i) + " + x("int") + "]" },
			func() string { return "FnC()" },
			func() string { return x("char") },
			func() string { return "L.c" },
			func() string { return "r2.g" },
			func() string { return g.one("p2", "p0(P2)", "pp", "p0.p") + ".g" },
		}[n]()
	case "set":
		return []func() string{
			func() string {
				return "(" + x("set") + []string{" + ", " - ", " * ", " / "}[g.r.Intn(4)] + x("set") + ")"
			},
			func() string { return "(-" + x("set") + ")" },
			func() string { return "{i, " + x("int") + ", i .. " + x("int") + "}" },
			func() string { return "{i + " + x("int") + "}" },
			func() string { return g.one("p1", "p2", "r1", "q(T1)", "rec.r") + ".h" },
			func() string { return "FnS()" },
			func() string { return x("set") },
		}[n]()
	}
	return g.leaf(kind)
}

func (g *maker) leaf(kind string) string {
	switch kind {
	case "int":
		return g.one("i", "j", "n", "v", "3", "c3", "L.k", "L.v", "r0.f", "p0.f", "a[2]", "LEN(o)", "LEN(a)", "x.a", "f1(1)")
	case "bool":
		return g.one("b", "k", "TRUE", "cYes", "L.b", "FnB()", "EOT()")
	case "char":
		return g.one("ch", "d", "vd", "41X", "cCh", `CHR(65)`, "L.c", "r.g", "t[3]", "oc[0]")
	case "set":
		return g.one("s", "{}", "{1, 3 .. 5}", "cSet", "L.s", "r1.h", "p1.h")
	}
	return g.one("p0", "p1", "p2", "pp", "p", "NIL", "FnP()", "q.p")
}

func (g *maker) stat(depth int) string {
	e := func(kind string) string { return g.make(kind, 2) }
	l := []func() string{
		func() string {
			return g.one("i", "v", "q.f", "a[0]", "p0.f", "z[1]", "L.h.x.a", "lr.a") + " := " + e("int")
		},
		func() string { return g.one("b", "k", "b") + " := " + e("bool") },
		func() string { return g.one("ch", "vd", "t[0]", "w[0]", "r0.g") + " := " + e("char") },
		func() string { return g.one("s", "r1.h", "p0(P1).h", "q(T1).h") + " := " + e("set") },
		func() string { return g.one("p0", "pp", "p", "q.p") + " := " + e("ptr") },
		func() string { return "One(" + e("int") + ")" },
		func() string { return "INC(" + g.one("i", "v", "q.f") + ", " + e("int") + ")" },
		func() string { return "INCL(" + g.one("s", "r1.h") + ", " + e("int") + "); WRITE(" + e("char") + ")" },
		func() string {
			return "IF " + e("bool") + " THEN " + g.stats(depth) + " ELSE " + g.stats(depth) + " END"
		},
		func() string { return "WHILE " + e("bool") + " DO " + g.stats(depth) + " END" },
		func() string { return "REPEAT " + g.stats(depth) + " UNTIL " + e("bool") },
		func() string {
			return "FOR i := " + e("int") + " TO " + e("int") + " BY 2 DO " + g.stats(depth) + " END"
		},
		func() string {
			return "CASE " + e("int") + " OF 1, 3 .. 5: " + g.stats(depth) + " | 2: " + g.stats(depth) + " END"
		},
		func() string { return "E; ASSERT(" + e("bool") + ")" },
	}
	if depth == 0 {
		l = l[:8]
	}
	return l[g.r.Intn(len(l))]()
}

func (g *maker) stats(depth int) string {
	s := g.stat(max(depth-1, 0))
	for g.r.Intn(2) == 0 {
		s += "; " + g.stat(max(depth-1, 0))
	}
	return s
}

// P18.1: what is put together as the document says is right; one name that is
// not found is a fault there, whatever is around it; and one operand of a type
// that fits nowhere never passes.
func TestPutTogether(t *testing.T) {
	lf := libFace(t)
	for seed := range 800 {
		g := &maker{r: rand.New(rand.NewSource(int64(seed)))}
		s := within(g.stats(3))
		m, at, err := tree.Parse(s)
		if err != api.OK {
			t.Fatalf("%v: %s", err, short(s, at))
		}
		f, fault := Check(m, faces{lf})
		if fault != (api.Fault{}) {
			t.Errorf("P18.1: %v at %s", fault, short(s, fault.At))
			continue
		}
		if !iface.Good(f) {
			t.Errorf("P18.1: no interface of %s", s)
		}
		if g.counted == 0 {
			continue
		}
		wait := 1 + rand.New(rand.NewSource(int64(seed))).Intn(g.counted)
		lost := &maker{r: rand.New(rand.NewSource(int64(seed))), other: "@zz", wait: wait}
		if s := lost.stats(3); strings.Contains(s, "@") && !strings.Contains(s, "IS @") {
			mustFault(t, api.ErrName, within(s), lf)
		}
		wrong := &maker{r: rand.New(rand.NewSource(int64(seed))), other: "m", wait: wait}
		s = within(wrong.stats(3))
		if _, fault := Check(parsed(t, s), faces{lf}); fault.Code != api.ErrType && fault.Code != api.ErrName {
			t.Errorf("P18.1: %v of %s", fault, s[strings.LastIndex(s, "BEGIN"):])
		}
	}
}

// Any module at all: the call ends, the same each time, with a fault or with
// what is an interface.
func TestAnyModule(t *testing.T) {
	lf := libFace(t)
	sources := []string{lib, body("E; i := a[2] + Fn(3); CASE i OF 1, 2 .. 3: END; IF p0 IS P1 THEN p0(P1).h := {i} END; L.G(x, t)"), within("q(T1).h := {}; FOR i := 1 TO n BY 2 DO INC(v) END; WHILE b DO READ(vd) END"), decls + " END A."}
	var all []api.Token
	for _, s := range sources {
		l, _, _ := token.Lex(s)
		all = append(all, l...)
	}
	r := rand.New(rand.NewSource(18))
	counts := map[api.Errno]int{}
	for range 8000 {
		s := changed(t, r, sources[r.Intn(len(sources))], all)
		m, _, err := tree.Parse(s)
		if err != api.OK {
			continue
		}
		f, fault := Check(m, faces{lf})
		again, fault2 := Check(m, faces{lf})
		if fault != fault2 || !iface.Same(f, again) {
			t.Errorf("rule 4: %v, then %v: %s", fault, fault2, s)
		}
		counts[fault.Code]++
		if fault.Code == api.OK {
			mustBeSound(t, f)
		} else if fault.At < 0 || fault.At >= len(s) || !iface.Same(f, api.Face{}) {
			t.Errorf("P18.1: %v, %v: %s", fault, f, s)
		}
	}
	for _, code := range []api.Errno{api.OK, api.ErrName, api.ErrType, api.ErrVar, api.ErrTwice} {
		if counts[code] < 5 {
			t.Errorf("only %d times %v: %v", counts[code], code, counts)
		}
	}
}

// changed puts some tokens of any source in the place of others of one kind.
func changed(t *testing.T, r *rand.Rand, s string, all []api.Token) string {
	t.Helper()
	l, _, err := token.Lex(s)
	if err != api.OK {
		t.Fatal(err)
	}
	for range 1 + r.Intn(3) {
		i := r.Intn(len(l))
		for range 20 {
			if x := all[r.Intn(len(all))]; x.Kind == l[i].Kind {
				l[i] = x
				break
			}
		}
	}
	s, err = token.Text(l)
	if err != api.OK {
		t.Fatal(fmt.Sprint(err, l))
	}
	return s
}
