package show

import (
	"fmt"
	"math/rand"
	"reflect"
	"strings"
	"testing"

	"spinet/api"
	"spinet/tree"
)

// The chapter's words once more, as texts: what is nothing leaves no blank.
func words(l ...string) string {
	var there []string
	for _, s := range l {
		if s != "" {
			there = append(there, s)
		}
	}
	return strings.Join(there, " ")
}

func texts[T any](l []T, one func(T) string) []string {
	var all []string
	for _, x := range l {
		all = append(all, one(x))
	}
	return all
}

func joined[T any](l []T, sep string, one func(T) string) string {
	return strings.Join(texts(l, one), " "+sep+" ")
}

func onlyIf(there bool, s string) string {
	if there {
		return s
	}
	return ""
}

func modelModule(m api.Module) string {
	return words("MODULE", m.Name, ";",
		onlyIf(len(m.Imports) > 0, "IMPORT "+joined(m.Imports, ",", modelImport)+" ;"),
		modelDecls(m.Consts, m.Types, m.Vars),
		words(texts(m.Procs, func(p api.Proc) string { return modelProc(p) + " ;" })...),
		modelBody(m.Body),
		"END", m.Name, ".")
}

func modelImport(x api.Import) string {
	if x.Alias == x.Name {
		return x.Name
	}
	return x.Alias + " := " + x.Name
}

func modelDecls(consts []api.Const, types []api.Type, vars []api.Var) string {
	return words(
		onlyIf(len(consts) > 0, "CONST "+words(texts(consts, func(x api.Const) string {
			return modelDef(x.Name, x.Export) + " = " + modelExpr(x.Value) + " ;"
		})...)),
		onlyIf(len(types) > 0, "TYPE "+words(texts(types, func(x api.Type) string {
			return modelDef(x.Name, x.Export) + " = " + modelType(x.Type) + " ;"
		})...)),
		onlyIf(len(vars) > 0, "VAR "+words(texts(vars, func(x api.Var) string {
			return modelDef(x.Name, x.Export) + " : " + modelType(x.Type) + " ;"
		})...)))
}

func modelDef(name string, export bool) string {
	return words(name, onlyIf(export, "*"))
}

func modelProc(p api.Proc) string {
	return words("PROCEDURE", modelDef(p.Name, p.Export), modelFormals(p.Params, p.Result), ";",
		modelDecls(p.Consts, p.Types, p.Vars), modelBody(p.Body),
		words(texts(p.Return, func(e api.Expr) string { return "RETURN " + modelExpr(e) })...),
		"END", p.Name)
}

func modelFormals(params []api.Param, result []api.Texpr) string {
	return words("(", joined(params, ";", func(x api.Param) string {
		return words(onlyIf(x.Var, "VAR"), x.Name, ":", modelType(x.Type))
	}), ")", words(texts(result, func(t api.Texpr) string { return ": " + modelType(t) })...))
}

func modelType(t api.Texpr) string {
	return map[int]func() string{
		api.TxName:    func() string { return words(onlyIf(t.Mod != "", t.Mod+" ."), t.Name) },
		api.TxArray:   func() string { return words("ARRAY", joined(t.Lens, ",", modelExpr), "OF", modelType(t.Elem[0])) },
		api.TxPointer: func() string { return "POINTER TO " + modelType(t.Elem[0]) },
		api.TxProc:    func() string { return "PROCEDURE " + modelFormals(t.Params, t.Result) },
		api.TxOpen:    func() string { return "ARRAY OF " + modelType(t.Elem[0]) },
		api.TxRecord: func() string {
			return words("RECORD", words(texts(t.Base, func(t api.Texpr) string { return "( " + modelType(t) + " )" })...),
				joined(t.Fields, ";", func(x api.Field) string { return modelDef(x.Name, x.Export) + " : " + modelType(x.Type) }), "END")
		},
	}[t.Kind]()
}

func modelBody(l []api.Stat) string {
	return onlyIf(len(l) > 0, "BEGIN "+modelBlock(l))
}

func modelBlock(l []api.Stat) string {
	return joined(l, ";", modelStat)
}

func modelStat(s api.Stat) string {
	exprs, blocks := texts(s.Exprs, modelExpr), texts(s.Blocks, modelBlock)
	text := ""
	switch s.Kind {
	case api.StAssign:
		return exprs[0] + " := " + exprs[1]
	case api.StCall:
		return exprs[0]
	case api.StIf, api.StWhile:
		word := []string{api.StIf: "THEN", api.StWhile: "DO"}[s.Kind]
		for i, e := range exprs {
			text = words(text, onlyIf(i > 0, "ELSIF"), e, word, blocks[i])
		}
		if len(blocks) > len(exprs) {
			text = words(text, "ELSE", blocks[len(exprs)])
		}
		return words([]string{api.StIf: "IF", api.StWhile: "WHILE"}[s.Kind], text, "END")
	case api.StCase:
		for i, l := range s.Labels {
			text = words(text, onlyIf(i > 0, "|"), joined(l, ",", modelExpr), ":", blocks[i])
		}
		return words("CASE", exprs[0], "OF", text, "END")
	case api.StRepeat:
		return words("REPEAT", blocks[0], "UNTIL", exprs[0])
	}
	if len(exprs) > 2 {
		text = "BY " + exprs[2]
	}
	return words("FOR", s.Name, ":=", exprs[0], "TO", exprs[1], text, "DO", blocks[0], "END")
}

func modelOperand(e api.Expr) string {
	if e.Kind == api.ExBinary || e.Kind == api.ExUnary {
		return "( " + modelExpr(e) + " )"
	}
	return modelExpr(e)
}

func modelExpr(e api.Expr) string {
	args := texts(e.Args, modelExpr)
	switch e.Kind {
	case api.ExInt:
		if e.N < 0 {
			return fmt.Sprintf("0%XH", uint32(e.N))
		}
		return fmt.Sprint(e.N)
	case api.ExChar:
		s := fmt.Sprintf("%XX", e.N)
		return onlyIf(s[0] > '9', "0") + s
	case api.ExText:
		return fmt.Sprintf(`"%s"`, e.Text)
	case api.ExNil:
		return "NIL"
	case api.ExBool:
		return []string{"FALSE", "TRUE"}[e.N]
	case api.ExSet:
		return words("{", strings.Join(args, " , "), "}")
	case api.ExRange:
		return strings.Join(args, " .. ")
	case api.ExDot:
		return args[0] + " . " + e.Text
	case api.ExIndex:
		return args[0] + " [ " + args[1] + " ]"
	case api.ExDeref:
		return args[0] + " ^"
	case api.ExCall:
		return words(args[0], "(", strings.Join(args[1:], " , "), ")")
	case api.ExUnary:
		return e.Op + " " + modelOperand(e.Args[0])
	case api.ExBinary:
		return modelOperand(e.Args[0]) + " " + e.Op + " " + modelOperand(e.Args[1])
	}
	return e.Text
}

// Sources that together have a thing of every kind.
var sources = []string{
	`MODULE A; IMPORT B, C := D; CONST k* = -1 + 2 * x; s = {1, 2 .. 3, ~TRUE}; z = f("t", 0AX, NIL, FALSE)^.a[1, 2]; END A.`,
	`MODULE A; TYPE T* = RECORD (B.R) a*, b: T; c: ARRAY 2, n OF CHAR END; P = POINTER TO T; VAR v*, w: P; u: RECORD END; END A.`,
	`MODULE A; TYPE F = PROCEDURE (VAR x, y: T; z: ARRAY OF ARRAY OF B.U): B.C; G = PROCEDURE; BEGIN v := w; Q(v) END A.`,
	`MODULE A; PROCEDURE Q*(x: T; VAR y: ARRAY OF T): P; CONST l = 1; TYPE L = RECORD e*: T END; VAR i, j: L; BEGIN i := j RETURN i IS T END Q; PROCEDURE R; END R; END A.`,
	`MODULE A; BEGIN IF a THEN b ELSIF c THEN ELSE d END; CASE x OF 1, 3 .. 5: y | "a": END; CASE x OF END END A.`,
	`MODULE A; BEGIN WHILE a DO b ELSIF c DO END; REPEAT p UNTIL a; FOR i := 1 TO 2 DO END; FOR j := 1 TO 2 BY -1 DO x END END A.`,
}

func withPlaces(m api.Module, at int64) api.Module {
	m = roomy(m)
	visit(reflect.ValueOf(&m).Elem(), func(v reflect.Value) {
		if v.Kind() == reflect.Struct {
			v.FieldByName("At").SetInt(at)
		}
	})
	return m
}

func TestSourcesOfEveryKind(t *testing.T) {
	seen := map[[2]any]bool{}
	for _, s := range sources {
		m := mustParse(t, s)
		mustShow(t, m, modelModule(m))
		visit(reflect.ValueOf(m), func(v reflect.Value) {
			switch v.Interface().(type) {
			case api.Expr, api.Texpr, api.Stat:
				seen[[2]any{v.Type(), v.Field(0).Int()}] = true
			}
		})
	}
	if len(seen) != 14+7+6 {
		t.Error("the sources lack a kind:", len(seen))
	}
}

// Modules made at random, held against the model.
func TestModulesAtRandom(t *testing.T) {
	r := maker{rand.New(rand.NewSource(35))}
	shown := 0
	for range 8000 {
		m := r.module()
		if !tree.Check(m) {
			t.Fatal("the maker makes none", m)
		}
		want := modelModule(m)
		if len(want) < api.MaxText {
			shown++
			mustShow(t, m, want)
		} else if s, err := Module(m); s != "" || err != api.ErrLong && err != api.ErrMany {
			t.Fatal(len(want), len(s), err)
		}
	}
	if shown < 7000 {
		t.Error("too few have a text:", shown)
	}
}
