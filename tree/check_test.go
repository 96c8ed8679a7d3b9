package tree

import (
	"math"
	"math/rand"
	"reflect"
	"strings"
	"testing"

	"spinet/api"
)

// mayCome is what Check asks, in other words: written as a source and read
// again, the module is the same.
func mayCome(m api.Module) bool {
	copied := cloned(m)
	s, ok := written(&copied, nil)
	if !ok {
		return false
	}
	got, _, err := Parse(s)
	return err == api.OK && alike(got, m)
}

// mustCheck holds Check and Size against the models, and sees that the module
// stays as it is.
func mustCheck(t *testing.T, m api.Module) {
	t.Helper()
	before := cloned(m)
	if got, want := Check(m), mayCome(m); got != want {
		t.Fatalf("%v: %v, want %v", m, got, want)
	}
	if got, want := Size(m), min(nodesOf(m), api.MaxNodes+1); got != want {
		t.Fatalf("%v: %d, want %d", m, got, want)
	}
	if !exactly(m, before) {
		t.Fatalf("changed: %v, %v", before, m)
	}
}

// Sources that together have a thing of every kind.
var sources = []string{
	`MODULE A; IMPORT B, C := D; CONST k* = -1 + 2 * x; s = {1, 2 .. 3, ~TRUE}; z = f("t", 0AX, NIL, FALSE)^.a[1, 2]; END A.`,
	`MODULE A; TYPE T* = RECORD (B.R) a*, b: T; c: ARRAY 2, n OF CHAR END; P = POINTER TO T; VAR v*, w: P; u: RECORD END; END A.`,
	`MODULE A; TYPE F = PROCEDURE (VAR x, y: T; z: ARRAY OF ARRAY OF B.U): B.C; G = PROCEDURE; BEGIN v := w; Q(v) END A.`,
	`MODULE A; PROCEDURE Q*(x: T; VAR y: ARRAY OF T): P; CONST l = 1; TYPE L = RECORD e*: T END; VAR i, j: L; BEGIN i := j RETURN i IS T END Q; PROCEDURE R; END R; END A.`,
	`MODULE A; BEGIN IF a THEN b ELSIF c THEN ELSE d END; CASE x OF 1, 3 .. 5: y | "a": END; CASE x OF END END A.`,
	`MODULE A; BEGIN WHILE a DO b ELSIF c DO END; REPEAT p UNTIL a; FOR i := 1 TO 2 DO END; FOR j := 1 TO 2 BY -1 DO x END END A.`,
}

func numbers(old int) []int {
	l := []int{old - 1, old + 1, -1, 256, 1<<31 - 1, 1 << 31, -1 << 31, -1<<31 - 1, math.MaxInt, math.MinInt}
	for n := range 17 {
		l = append(l, n)
	}
	return append(l, 255)
}

func texts() []string {
	return []string{
		"", "a", "A", "B", "q9", "END", "IN", "OR", "DIV", "NIL", "TRUE", "1", "a b", "a;", " a", "a ", "(**)a", "a.b", "é", "_", "\x00", "\x1f", "\n", `"`, "!",
		"+", "-", "~", "=", "#", "<=", "&", "*", ":=", "..", "= #", ".", strings.Repeat("n", api.MaxName), strings.Repeat("n", api.MaxName+1), strings.Repeat("t", api.MaxString), strings.Repeat("t", api.MaxString+1),
	}
}

var (
	oneName = api.Expr{Kind: api.ExName, Text: "x"}
	oneInt  = api.Expr{Kind: api.ExInt, N: 3}
	oneSpan = api.Expr{Kind: api.ExRange, Args: []api.Expr{oneInt, oneName}}
	oneType = api.Texpr{Kind: api.TxName, Name: "T"}
	oneOpen = api.Texpr{Kind: api.TxOpen, Elem: []api.Texpr{oneType}}
	oneCall = api.Stat{Kind: api.StCall, Exprs: []api.Expr{oneName}}
	oneRec  = api.Texpr{Kind: api.TxRecord}
)

// parts are things of every kind, right ones and wrong ones, to put in another's
// place.
func parts(t *testing.T) []reflect.Value {
	l := []reflect.Value{
		reflect.ValueOf(oneSpan), reflect.ValueOf(oneOpen), reflect.ValueOf(api.Expr{}), reflect.ValueOf(api.Texpr{}), reflect.ValueOf(api.Stat{}),
		reflect.ValueOf([]api.Expr{oneName}), reflect.ValueOf([]api.Expr{oneInt, oneName}), reflect.ValueOf([]api.Expr{oneName, oneInt, oneName}), reflect.ValueOf([]api.Expr{oneSpan}),
		reflect.ValueOf([]api.Texpr{oneType}), reflect.ValueOf([]api.Texpr{oneType, oneType}), reflect.ValueOf([]api.Texpr{oneOpen}), reflect.ValueOf([]api.Texpr{oneRec}),
		reflect.ValueOf([]api.Field{{Name: "f", Export: true, Type: oneType}}), reflect.ValueOf([]api.Param{{Name: "p", Var: true, Type: oneOpen}}),
		reflect.ValueOf([]api.Stat{oneCall}), reflect.ValueOf([][]api.Stat{nil}), reflect.ValueOf([][]api.Stat{{oneCall}, nil}), reflect.ValueOf([][]api.Expr{{oneInt}}), reflect.ValueOf([][]api.Expr{nil}), reflect.ValueOf([][]api.Expr{{oneSpan}, {oneName}}),
	}
	seen := map[[2]any]bool{}
	for _, s := range sources {
		visit(reflect.ValueOf(mustParse(t, s)), func(v reflect.Value) {
			switch v.Interface().(type) {
			case api.Expr, api.Texpr, api.Stat:
				k := [2]any{v.Type(), v.Field(0).Int()}
				if !seen[k] {
					seen[k] = true
					l = append(l, reflect.ValueOf(v.Interface()))
				}
			}
		})
	}
	if len(seen) != 14+7+6 {
		t.Fatal("the sources lack a kind:", len(seen))
	}
	return l
}

// turned are the values that stand in a part's place, one behind the other.
func turned(v reflect.Value, parts []reflect.Value) []reflect.Value {
	var l []reflect.Value
	for _, x := range parts {
		if x.Type() == v.Type() {
			l = append(l, x)
		}
	}
	switch v.Kind() {
	case reflect.Int:
		for _, n := range numbers(int(v.Int())) {
			l = append(l, reflect.ValueOf(n))
		}
	case reflect.String:
		for _, s := range texts() {
			l = append(l, reflect.ValueOf(s))
		}
	case reflect.Bool:
		l = append(l, reflect.ValueOf(!v.Bool()))
	case reflect.Slice:
		l = append(l, reflect.Zero(v.Type()), reflect.MakeSlice(v.Type(), 0, 1), reflect.Append(v.Slice3(0, v.Len(), v.Len()), reflect.Zero(v.Type().Elem())))
		if n := v.Len(); n > 0 {
			l = append(l, v.Slice3(0, n-1, n-1), v.Slice3(1, n, n), reflect.Append(v.Slice3(0, n, n), v.Index(0)), reflect.Append(v.Slice3(0, n, n), v.Index(n-1)))
		}
	}
	return l
}

// Each part of the sources' modules is turned into many others: Check, Size and
// Same must tell what the models do.
func TestOneThingTurned(t *testing.T) {
	all := parts(t)
	count := [2]int{}
	for _, s := range sources {
		good := mustParse(t, s)
		m := cloned(good)
		mustCheck(t, m)
		visit(reflect.ValueOf(&m).Elem(), func(v reflect.Value) {
			old := reflect.New(v.Type()).Elem()
			old.Set(v)
			for _, x := range turned(v, all) {
				v.Set(x)
				mustCheck(t, m)
				same := alike(m, good)
				if Same(m, good) != same || Same(good, m) != same || !Same(m, m) {
					t.Fatalf("%v: %v, want %v", m, !same, same)
				}
				if Check(m) {
					count[1]++
				} else {
					count[0]++
				}
			}
			v.Set(old)
		})
		if !exactly(m, good) {
			t.Fatal("the test has not put everything back")
		}
	}
	if count[0] < 1000 || count[1] < 1000 {
		t.Error("the test turns too little:", count)
	}
}

func TestPlacesDoNotMatter(t *testing.T) {
	for _, s := range sources {
		good := mustParse(t, s)
		for _, n := range []int{0, -1, 5, math.MaxInt, math.MinInt} {
			m := cloned(good)
			visit(reflect.ValueOf(&m).Elem(), func(v reflect.Value) {
				if v.Kind() == reflect.Struct {
					v.FieldByName("At").SetInt(int64(n))
				}
			})
			if !Check(m) || !Same(m, good) || !Same(good, m) || Size(m) != Size(good) {
				t.Error(n, s)
			}
		}
	}
}

// Every expression of few parts, in the places where expressions stand.
func TestExpressionsOfAllForms(t *testing.T) {
	lists := [][]api.Expr{nil, {oneName}, {oneInt}, {oneSpan}, {oneName, oneName}, {oneName, oneInt}, {oneInt, oneName}, {oneSpan, oneInt}, {oneName, oneSpan}, {oneInt, oneInt, oneInt}, {oneName, oneInt, oneInt}}
	for kind := -1; kind <= 16; kind++ {
		for _, n := range []int{0, 1, 2} {
			for _, text := range []string{"", "a"} {
				for _, op := range []string{"", "+", "-", "~", "=", "DIV", "OR", "&", "NOT"} {
					for _, args := range lists {
						e := api.Expr{Kind: kind, N: n, Text: text, Op: op, Args: args}
						mustCheck(t, api.Module{Name: "A", Consts: []api.Const{{Name: "c", Value: e}}})
						mustCheck(t, api.Module{Name: "A", Body: []api.Stat{{Kind: api.StAssign, Exprs: []api.Expr{e, e}}}})
						mustCheck(t, api.Module{Name: "A", Body: []api.Stat{{Kind: api.StCase, Exprs: []api.Expr{oneInt}, Labels: [][]api.Expr{{e}}, Blocks: make([][]api.Stat, 1)}}})
					}
				}
			}
		}
	}
}

func TestTypesOfAllForms(t *testing.T) {
	none := []api.Texpr(nil)
	r := rand.New(rand.NewSource(12))
	elems := [][]api.Texpr{none, {oneType}, {oneOpen}, {oneRec}, {oneType, oneType}}
	quals := [][]api.Texpr{none, {oneType}, {oneRec}, {oneType, oneType}}
	for range 10000 {
		pick := func(n int) int { return r.Intn(2) * r.Intn(2) * r.Intn(n) }
		e := api.Texpr{
			Kind: r.Intn(9) - 1,
			Mod:  []string{"", "M", "END"}[pick(3)],
			Name: []string{"", "T", "1"}[pick(3)],
			Lens: [][]api.Expr{nil, {oneInt}, {oneSpan}, {oneName, oneInt}}[pick(4)],
			Elem: elems[pick(5)], Base: quals[pick(4)], Result: quals[pick(4)],
			Fields: [][]api.Field{nil, {{Name: "f", Type: oneType}}, {{Name: "", Type: oneType}}, {{Name: "f", Type: oneOpen}}}[pick(4)],
			Params: [][]api.Param{nil, {{Name: "f", Type: oneType}}, {{Name: "", Type: oneType}}, {{Name: "f", Type: oneOpen}}, {{Name: "f", Type: oneRec}}}[pick(5)],
		}
		mustCheck(t, api.Module{Name: "A", Types: []api.Type{{Name: "T", Type: e}}})
		mustCheck(t, api.Module{Name: "A", Vars: []api.Var{{Name: "T", Type: e}}})
		mustCheck(t, api.Module{Name: "A", Procs: []api.Proc{{Name: "P", Params: []api.Param{{Name: "x", Type: e}}}}})
		mustCheck(t, api.Module{Name: "A", Procs: []api.Proc{{Name: "P", Result: []api.Texpr{e}}}})
		mustCheck(t, api.Module{Name: "A", Types: []api.Type{{Name: "T", Type: api.Texpr{Kind: api.TxRecord, Base: []api.Texpr{e}}}}})
	}
}

func TestStatementsOfAllForms(t *testing.T) {
	for kind := -1; kind <= 9; kind++ {
		for _, name := range []string{"", "i", "DO"} {
			for _, exprs := range [][]api.Expr{nil, {oneName}, {oneInt}, {oneSpan}, {oneName, oneInt}, {oneInt, oneName}, {oneName, oneSpan}, {oneName, oneName, oneInt}, {oneName, oneName, oneInt, oneInt}} {
				for _, labels := range [][][]api.Expr{nil, {{oneInt}}, {nil}, {{oneInt, oneSpan}, {oneName}}, {{oneInt}, nil}} {
					for blocks := range 6 {
						s := api.Stat{Kind: kind, Name: name, Exprs: exprs, Labels: labels, Blocks: make([][]api.Stat, blocks)}
						mustCheck(t, api.Module{Name: "A", Body: []api.Stat{s}})
						mustCheck(t, api.Module{Name: "A", Procs: []api.Proc{{Name: "P", Body: []api.Stat{{Kind: api.StRepeat, Exprs: []api.Expr{oneName}, Blocks: [][]api.Stat{{s}}}}}}})
					}
				}
			}
		}
	}
}

func TestZeroModule(t *testing.T) {
	var m api.Module
	if Check(m) || Size(m) != 0 || !Same(m, m) {
		t.Error("the zero module")
	}
	m.Name = "A"
	if !Check(m) || Size(m) != 0 || Same(m, api.Module{}) || !Same(m, api.Module{Name: "A", At: 7, Imports: []api.Import{}, Body: []api.Stat{}}) {
		t.Error("the empty module")
	}
}

// roomy is a copy whose lists have spare room, with something in it.
func roomy(to, from reflect.Value) {
	switch from.Kind() {
	case reflect.Struct:
		for i := range from.NumField() {
			roomy(to.Field(i), from.Field(i))
		}
	case reflect.Slice:
		n := from.Len()
		l := reflect.MakeSlice(from.Type(), n+2, n+2)
		for i := range n {
			roomy(l.Index(i), from.Index(i))
		}
		if elem := l.Index(n); elem.Kind() == reflect.Struct {
			elem.FieldByName("At").SetInt(99)
		}
		to.Set(l.Slice(0, n))
	default:
		to.Set(from)
	}
}

func stretched(v reflect.Value) {
	visit(v, func(v reflect.Value) {
		if v.Kind() == reflect.Slice {
			v.SetLen(v.Cap())
		}
	})
}

func TestArgumentsStayAsTheyAre(t *testing.T) {
	for _, s := range sources {
		good := mustParse(t, s)
		var m, before api.Module
		roomy(reflect.ValueOf(&m).Elem(), reflect.ValueOf(good))
		roomy(reflect.ValueOf(&before).Elem(), reflect.ValueOf(good))
		if !Check(m) || Size(m) != nodesOf(good) || !Same(m, good) || !Same(good, m) || !Same(m, before) {
			t.Error("a module with spare room")
		}
		stretched(reflect.ValueOf(&m).Elem())
		stretched(reflect.ValueOf(&before).Elem())
		if !exactly(m, before) || len(m.Imports) < 2 {
			t.Error("changed")
		}
	}
}
