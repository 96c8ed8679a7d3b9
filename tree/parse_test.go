package tree

import (
	"fmt"
	"reflect"
	"strings"
	"testing"
	"unsafe"

	"spinet/api"
)

// told is a thing as a text: expressions with brackets around each that has
// parts, and @ with the place of each node and each declared name.
func told(x any) string {
	switch x := x.(type) {
	case api.Expr:
		return toldExpr(x)
	case api.Texpr:
		return toldType(x)
	case api.Stat:
		s := fmt.Sprintf("st%d@%d", x.Kind, x.At)
		if x.Name != "" {
			s += " " + x.Name
		}
		return s + toldAll(" ", x.Exprs) + toldLists(" :", x.Labels) + toldLists(" ;", x.Blocks)
	case api.Field:
		return fmt.Sprintf("%s%s@%d=%s", x.Name, star(x.Export), x.At, told(x.Type))
	case api.Var:
		return told(api.Field(x))
	case api.Type:
		return told(api.Field(x))
	case api.Const:
		return fmt.Sprintf("%s%s@%d=%s", x.Name, star(x.Export), x.At, told(x.Value))
	case api.Param:
		return fmt.Sprintf("%s%s@%d=%s", x.Name, strings.Repeat("!", count(x.Var)), x.At, told(x.Type))
	case api.Import:
		return fmt.Sprintf("%s/%s@%d", x.Alias, x.Name, x.At)
	case api.Proc:
		return fmt.Sprintf("%s%s@%d", x.Name, star(x.Export), x.At) + toldAll(" P", x.Params) + toldAll(" R", x.Result) + toldAll(" C", x.Consts) + toldAll(" T", x.Types) + toldAll(" V", x.Vars) + toldAll(" B", x.Body) + toldAll(" X", x.Return)
	case api.Module:
		return fmt.Sprintf("%s@%d", x.Name, x.At) + toldAll(" I", x.Imports) + toldAll(" C", x.Consts) + toldAll(" T", x.Types) + toldAll(" V", x.Vars) + toldAll(" P", x.Procs) + toldAll(" B", x.Body)
	}
	panic(x)
}

func count(b bool) int {
	if b {
		return 1
	}
	return 0
}

func star(b bool) string { return strings.Repeat("*", count(b)) }

func toldAll[T any](mark string, l []T) string {
	if len(l) == 0 {
		return ""
	}
	var parts []string
	for _, x := range l {
		parts = append(parts, told(x))
	}
	return mark + "[" + strings.Join(parts, ", ") + "]"
}

func toldLists[T any](mark string, l [][]T) string {
	s := ""
	for _, x := range l {
		s += mark + toldAll("", x)
	}
	return s
}

func toldExpr(e api.Expr) string {
	switch e.Kind {
	case api.ExInt, api.ExChar, api.ExNil, api.ExBool:
		return fmt.Sprintf("%s%d@%d", []string{1: "i", 2: "c", 4: "nil", 5: "b"}[e.Kind], e.N, e.At) + e.Text + e.Op
	case api.ExText:
		return fmt.Sprintf("%q@%d", e.Text, e.At)
	case api.ExName:
		return fmt.Sprintf("%s@%d", e.Text, e.At)
	}
	mark := []string{6: "set", 7: "..", 9: "." + e.Text, 10: "index", 11: "^", 12: "call", 13: e.Op, 14: e.Op}[e.Kind]
	return fmt.Sprintf("(%s@%d%s)", mark, e.At, toldAll(" ", e.Args))
}

func toldType(t api.Texpr) string {
	mark := []string{1: "", 2: "array", 3: "record", 4: "pointer", 5: "proc", 6: "open"}[t.Kind]
	if t.Mod != "" {
		mark += t.Mod + "."
	}
	return fmt.Sprintf("%s%s@%d", mark, t.Name, t.At) + toldAll(" L", t.Lens) + toldAll(" E", t.Elem) + toldAll(" B", t.Base) + toldAll(" F", t.Fields) + toldAll(" P", t.Params) + toldAll(" R", t.Result)
}

func mustTell(t *testing.T, s, want string) {
	t.Helper()
	m := mustParse(t, s)
	if got := told(m); got != want {
		t.Errorf("%s:\n%s, want\n%s", s, got, want)
	}
	if !Check(m) || !Same(m, mustParse(t, s)) || Size(m) != nodesOf(m) {
		t.Errorf("%s: Check, Same, Size", s)
	}
	mustShareNothing(t, s, m, mustParse(t, s))
}

func TestChapterExamples(t *testing.T) {
	mustTell(t, "MODULE A; BEGIN x := -a.b[1](2) + 3 END A.",
		"A@0 B[st1@16 [x@16, (+@21 [(-@21 [(call@22 [(index@22 [(.b@22 [a@22]), i1@26]), i2@29])]), i3@34])]]")
	mustRefuse(t, "MODULE A; END B.", 14, api.ErrParse)
}

func TestModules(t *testing.T) {
	mustTell(t, "MODULE A; END A.", "A@0")
	mustTell(t, "\n (* MODULE *) MODULE A; END A. (* END *)", "A@15")
	mustTell(t, "MODULE A; CONST TYPE VAR BEGIN END A.", "A@0")
	mustTell(t, "MODULE A; CONST END A.", "A@0")
	mustTell(t, "MODULE A; TYPE BEGIN ; END A.", "A@0")
	mustTell(t, "MODULE A; IMPORT B, C := D, E := E; END A.", "A@0 I[B/B@17, C/D@20, E/E@28]")
	mustTell(t, "MODULE A; IMPORT A := A; END A.", "A@0 I[A/A@17]")
	mustTell(t, "MODULE A; CONST a = 1; b* = 2; TYPE T* = U; S = M.T; VAR v*, w: T; x: U; END A.",
		"A@0 C[a@16=i1@20, b*@23=i2@28] T[T*@36=U@41, S@44=M.T@48] V[v*@57=T@64, w@61=T@64, x@67=U@70]")
}

func TestProcedures(t *testing.T) {
	mustTell(t, "MODULE A; PROCEDURE P; END P; PROCEDURE Q*; BEGIN END Q; END A.", "A@0 P[P@10, Q*@30]")
	mustTell(t, "MODULE A; PROCEDURE P(); RETURN 1 END P; END A.", "A@0 P[P@10 X[i1@32]]")
	mustTell(t, "MODULE A; PROCEDURE P(): T; BEGIN x RETURN y END P; END A.",
		"A@0 P[P@10 R[T@25] B[st2@34 [x@34]] X[y@43]]")
	mustTell(t, "MODULE A; PROCEDURE P; BEGIN x; RETURN y END P; END A.",
		"A@0 P[P@10 B[st2@29 [x@29]] X[y@39]]")
	mustTell(t, "MODULE A; PROCEDURE P(a, b: T; VAR c: ARRAY OF ARRAY OF M.T): M.U; CONST k = 1; TYPE T = U; VAR v, w: T; END P; END A.",
		"A@0 P[P@10 P[a@22=T@28, b@25=T@28, c!@35=open@38 E[open@47 E[M.T@56]]] R[M.U@62] C[k@73=i1@77] T[T@85=U@89] V[v@96=T@102, w@99=T@102]]")
	mustTell(t, "MODULE A; PROCEDURE P; VAR r: RECORD f*, g: T END; END P; END A.",
		"A@0 P[P@10 V[r@27=record@30 F[f*@37=T@44, g@41=T@44]]]")
}

func TestTypes(t *testing.T) {
	for s, want := range map[string]string{
		"T":                            "T@19",
		"M.T":                          "M.T@19",
		"M (* *) . T":                  "M.T@19",
		"ARRAY 1 OF T":                 "array@19 L[i1@25] E[T@30]",
		"ARRAY (1), n + 1, k OF M.T":   "array@19 L[i1@26, (+@30 [n@30, i1@34]), k@37] E[M.T@42]",
		"ARRAY 1 OF ARRAY 2 OF T":      "array@19 L[i1@25] E[array@30 L[i2@36] E[T@41]]",
		"POINTER TO T":                 "pointer@19 E[T@30]",
		"POINTER TO RECORD END":        "pointer@19 E[record@30]",
		"RECORD END":                   "record@19",
		"RECORD ; ; END":               "record@19",
		"RECORD (B) END":               "record@19 B[B@27]",
		"RECORD (M.B) a: T END":        "record@19 B[M.B@27] F[a@32=T@35]",
		"RECORD a: T; ; b*, c: U; END": "record@19 F[a@26=T@29, b*@34=U@41, c@38=U@41]",
		"PROCEDURE":                    "proc@19",
		"PROCEDURE ()":                 "proc@19",
		"PROCEDURE (): T":              "proc@19 R[T@33]",
		"PROCEDURE (a: T)":             "proc@19 P[a@30=T@33]",
		"PROCEDURE (VAR a, b: ARRAY OF T; c: M.U): M.T": "proc@19 P[a!@34=open@40 E[T@49], b!@37=open@40 E[T@49], c@52=M.U@55] R[M.T@61]",
	} {
		mustTell(t, "MODULE A; TYPE T = "+s+"; END A.", "A@0 T[T@15="+want+"]")
	}
}

func TestStatements(t *testing.T) {
	for s, want := range map[string]string{
		"x":                       "st2@16 [x@16]",
		"x;;; y;":                 "st2@16 [x@16], st2@21 [y@21]",
		"x.y()^[1]":               "st2@16 [(index@16 [(^@16 [(call@16 [(.y@16 [x@16])])]), i1@23])]",
		"x.y := 1":                "st1@16 [(.y@16 [x@16]), i1@23]",
		"x(1)(2)":                 "st2@16 [(call@16 [(call@16 [x@16, i1@18]), i2@21])]",
		"IF a THEN END":           "st3@16 [a@19] ;",
		"IF a THEN b END":         "st3@16 [a@19] ;[st2@26 [b@26]]",
		"IF a THEN ELSE b; c END": "st3@16 [a@19] ; ;[st2@31 [b@31], st2@34 [c@34]]",
		"IF a THEN b ELSIF c THEN ELSIF d THEN e ELSE END": "st3@16 [a@19, c@34, d@47] ;[st2@26 [b@26]] ; ;[st2@54 [e@54]] ;",
		"WHILE a DO END":                        "st5@16 [a@22] ;",
		"WHILE a DO b ELSIF c DO d END":         "st5@16 [a@22, c@35] ;[st2@27 [b@27]] ;[st2@40 [d@40]]",
		"REPEAT UNTIL a":                        "st6@16 [a@29] ;",
		"REPEAT x; UNTIL a = b":                 "st6@16 [(=@32 [a@32, b@36])] ;[st2@23 [x@23]]",
		"FOR i := 1 TO 2 DO END":                "st7@16 i [i1@25, i2@30] ;",
		"FOR i := 1 TO 2 BY -1 DO x END":        "st7@16 i [i1@25, i2@30, (-@35 [i1@36])] ;[st2@41 [x@41]]",
		"CASE a OF END":                         "st4@16 [a@21]",
		"CASE a OF | | END":                     "st4@16 [a@21]",
		"CASE a OF 1: END":                      "st4@16 [a@21] :[i1@26] ;",
		"CASE a OF | 1, 2 .. 3: x | | -4 : END": "st4@16 [a@21] :[i1@28, (..@31 [i2@31, i3@36])] :[(-@45 [i4@46])] ;[st2@39 [x@39]] ;",
		"CASE a OF (1) .. (2): END":             "st4@16 [a@21] :[(..@26 [i1@27, i2@34])] ;",
		"IF a THEN IF b THEN x END END":         "st3@16 [a@19] ;[st3@26 [b@29] ;[st2@36 [x@36]]]",
	} {
		mustTell(t, inBody(s), "A@0 B["+want+"]")
	}
}

func TestExpressions(t *testing.T) {
	for s, want := range map[string]string{
		"7":                "i7@20",
		"0FFFFFFFFH":       "i-1@20",
		"80000000H":        "i-2147483648@20",
		"2147483647":       "i2147483647@20",
		"0FFX":             "c255@20",
		`""`:               `""@20`,
		`"a END"`:          `"a END"@20`,
		"NIL":              "nil0@20",
		"TRUE":             "b1@20",
		"FALSE":            "b0@20",
		"x":                "x@20",
		"(x)":              "x@21",
		"( (x ) )":         "x@23",
		"x.y.z":            "(.z@20 [(.y@20 [x@20])])",
		"x[1, 2][3]":       "(index@20 [(index@20 [(index@20 [x@20, i1@22]), i2@25]), i3@28])",
		"x^^":              "(^@20 [(^@20 [x@20])])",
		"x()":              "(call@20 [x@20])",
		"x(1, y)":          "(call@20 [x@20, i1@22, y@25])",
		"x(y(z))(1)":       "(call@20 [(call@20 [x@20, (call@22 [y@22, z@24])]), i1@28])",
		"x((1))":           "(call@20 [x@20, i1@23])",
		"{}":               "(set@20)",
		"{1}":              "(set@20 [i1@21])",
		"{1, 2 .. 3, x}":   "(set@20 [i1@21, (..@24 [i2@24, i3@29]), x@32])",
		"{(1) .. 2}":       "(set@20 [(..@21 [i1@22, i2@28])])",
		"{({})}":           "(set@20 [(set@22)])",
		"~x":               "(~@20 [x@21])",
		"~ ~ (x)":          "(~@20 [(~@22 [x@25])])",
		"-x":               "(-@20 [x@21])",
		"+x":               "(+@20 [x@21])",
		"-(x)":             "(-@20 [x@22])",
		"(-x)":             "(-@21 [x@22])",
		"-x + y":           "(+@20 [(-@20 [x@21]), y@25])",
		"-x * y":           "(-@20 [(*@21 [x@21, y@25])])",
		"-(x + y)":         "(-@20 [(+@22 [x@22, y@26])])",
		"-~x":              "(-@20 [(~@21 [x@22])])",
		"(-x) * y":         "(*@21 [(-@21 [x@22]), y@27])",
		"x * (-y)":         "(*@20 [x@20, (-@25 [y@26])])",
		"x - y - z":        "(-@20 [(-@20 [x@20, y@24]), z@28])",
		"x - (y - z)":      "(-@20 [x@20, (-@25 [y@25, z@29])])",
		"x / y * z":        "(*@20 [(/@20 [x@20, y@24]), z@28])",
		"x + y * z":        "(+@20 [x@20, (*@24 [y@24, z@28])])",
		"x * y + z":        "(+@20 [(*@20 [x@20, y@24]), z@28])",
		"(x + y) * z":      "(*@21 [(+@21 [x@21, y@25]), z@30])",
		"x = y + z":        "(=@20 [x@20, (+@24 [y@24, z@28])])",
		"x + y = z":        "(=@20 [(+@20 [x@20, y@24]), z@28])",
		"-x = +y":          "(=@20 [(-@20 [x@21]), (+@25 [y@26])])",
		"(x = y) = z":      "(=@21 [(=@21 [x@21, y@25]), z@30])",
		"x OR y & z":       "(OR@20 [x@20, (&@25 [y@25, z@29])])",
		"~x & y":           "(&@20 [(~@20 [x@21]), y@25])",
		"~(x & y)":         "(~@20 [(&@22 [x@22, y@26])])",
		"x OR y OR z":      "(OR@20 [(OR@20 [x@20, y@25]), z@30])",
		"x DIV y MOD z":    "(MOD@20 [(DIV@20 [x@20, y@26]), z@32])",
		"x # y":            "(#@20 [x@20, y@24])",
		"x < y":            "(<@20 [x@20, y@24])",
		"x <= y":           "(<=@20 [x@20, y@25])",
		"x > y":            "(>@20 [x@20, y@24])",
		"x >= y":           "(>=@20 [x@20, y@25])",
		"x IN {y}":         "(IN@20 [x@20, (set@25 [y@26])])",
		"x IS M.T":         "(IS@20 [x@20, (.T@25 [M@25])])",
		"((x) + (y)) = 1":  "(=@22 [(+@22 [x@22, y@28]), i1@34])",
		"x.y(1)[2]^ - 0AX": "(-@20 [(^@20 [(index@20 [(call@20 [(.y@20 [x@20]), i1@24]), i2@27])]), c10@33])",
	} {
		mustTell(t, "MODULE A; CONST c = "+s+"; END A.", "A@0 C[c@16="+want+"]")
	}
}

// What can't stand, at its place: there an @ stands, which is cut out.
const misfits = `
@
@BEGIN
@A
MODULE @
MODULE @;
MODULE @MODULE;
MODULE @"A"; END A.
MODULE A@
MODULE A @END A.
MODULE A; END @B.
MODULE A; END @a.
MODULE A; END @END.
MODULE A; END @.
MODULE A; END A@
MODULE A; END A (* . *)@
MODULE A; END A@; x
MODULE A; END A. @.
MODULE A; END A. @x
MODULE A; END A@..
MODULE A; @x END A.
MODULE A; IMPORT@; END A.
MODULE A; IMPORT B @END A.
MODULE A; IMPORT B,@; END A.
MODULE A; IMPORT B @C; END A.
MODULE A; IMPORT B :=@; END A.
MODULE A; IMPORT B @= C; END A.
MODULE A; IMPORT B@.C; END A.
MODULE A; IMPORT B; @IMPORT C; END A.
MODULE A; CONST a @:= 1; END A.
MODULE A; CONST a = @; END A.
MODULE A; CONST a = 1 @END A.
MODULE A; CONST a*@*= 1; END A.
MODULE A; CONST a@, b = 1; END A.
MODULE A; CONST @1 = 1; END A.
MODULE A; TYPE T = U; @CONST c = 1; END A.
MODULE A; VAR x: T; @TYPE T = U; END A.
MODULE A; VAR x: T; @VAR y: T; END A.
MODULE A; PROCEDURE P; END P; @VAR x: T; END A.
MODULE A; BEGIN END A.@; PROCEDURE P; END P;
MODULE A; VAR x @T; END A.
MODULE A; VAR x: @; END A.
MODULE A; VAR x,@: T; END A.
MODULE A; VAR x: T @y: T; END A.
MODULE A; VAR x: ARRAY @OF T; END A.
MODULE A; VAR x @= T; END A.
MODULE A; TYPE T = @; END A.
MODULE A; TYPE T = @1; END A.
MODULE A; TYPE T = M.@; END A.
MODULE A; TYPE T = M.T@.U; END A.
MODULE A; TYPE T = ARRAY 1, @OF U; END A.
MODULE A; TYPE T = ARRAY 1 @U; END A.
MODULE A; TYPE T = ARRAY 1@..2 OF U; END A.
MODULE A; TYPE T = POINTER @T; END A.
MODULE A; TYPE T = POINTER TO @; END A.
MODULE A; TYPE T = RECORD a: U @b: U END; END A.
MODULE A; TYPE T = RECORD (@) END; END A.
MODULE A; TYPE T = RECORD (A@, B) END; END A.
MODULE A; TYPE T = RECORD (@RECORD END) END; END A.
MODULE A; TYPE T = RECORD a*@*: U END; END A.
MODULE A; TYPE T = RECORD a: U END @END A.
MODULE A; TYPE T = RECORD a @END; END A.
MODULE A; TYPE T = PROCEDURE @: U; END A.
MODULE A; TYPE T = PROCEDURE ( @*a: U); END A.
MODULE A; TYPE T = PROCEDURE (a@*: U); END A.
MODULE A; TYPE T = PROCEDURE (): @ARRAY 1 OF U; END A.
MODULE A; TYPE T = PROCEDURE (a: U@,b: U); END A.
MODULE A; TYPE T = PROCEDURE (a: U;@); END A.
MODULE A; TYPE T = PROCEDURE (VAR@); END A.
MODULE A; TYPE T = PROCEDURE (a: ARRAY @1 OF U); END A.
MODULE A; TYPE T = PROCEDURE (a: @RECORD END); END A.
MODULE A; TYPE T = PROCEDURE (a: @POINTER TO U); END A.
MODULE A; TYPE T = PROCEDURE (a, @VAR b: U); END A.
MODULE A; PROCEDURE @; END P; END A.
MODULE A; PROCEDURE P @END P; END A.
MODULE A; PROCEDURE P; END @Q; END A.
MODULE A; PROCEDURE P; END @A; END A.
MODULE A; PROCEDURE P; END P; END @P.
MODULE A; PROCEDURE P; END P @END A.
MODULE A; PROCEDURE P; END P@. END A.
MODULE A; PROCEDURE P; @PROCEDURE Q; END Q; END P; END A.
MODULE A; PROCEDURE P; CONST k@* = 1; END P; END A.
MODULE A; PROCEDURE P; TYPE T@* = U; END P; END A.
MODULE A; PROCEDURE P; VAR x@*: T; END P; END A.
MODULE A; PROCEDURE P; VAR x, y@*: T; END P; END A.
MODULE A; PROCEDURE P(x@*: T); END P; END A.
MODULE A; PROCEDURE P; RETURN @END P; END A.
MODULE A; PROCEDURE P; RETURN 1@; END P; END A.
MODULE A; PROCEDURE P; RETURN 1 @BEGIN END P; END A.
MODULE A; BEGIN @RETURN 1 END A.
MODULE A; @RETURN 1 END A.
MODULE A; PROCEDURE P; BEGIN IF a THEN @RETURN 1 END END P; END A.
MODULE A; BEGIN x @= 1 END A.
MODULE A; BEGIN @(a) := 1 END A.
MODULE A; BEGIN @1 END A.
MODULE A; BEGIN x := y @:= z END A.
MODULE A; BEGIN x := @; END A.
MODULE A; BEGIN x @y END A.
MODULE A; BEGIN x @+ y END A.
MODULE A; BEGIN @~x END A.
MODULE A; BEGIN x.@1 END A.
MODULE A; BEGIN x[@] END A.
MODULE A; BEGIN x[1,@] END A.
MODULE A; BEGIN x[1 @END A.
MODULE A; BEGIN x(1,@) END A.
MODULE A; BEGIN x(@,) END A.
MODULE A; BEGIN x(1 @2) END A.
MODULE A; BEGIN x(1@] END A.
MODULE A; BEGIN x[1@..2] END A.
MODULE A; BEGIN x(1@..2) END A.
MODULE A; BEGIN IF @THEN END END A.
MODULE A; BEGIN IF a @DO END END A.
MODULE A; BEGIN IF a THEN ELSE @ELSE END END A.
MODULE A; BEGIN IF a THEN ELSE @ELSIF b THEN END END A.
MODULE A; BEGIN IF a THEN @. END A.
MODULE A; BEGIN @ELSE END A.
MODULE A; BEGIN IF a THEN END @A. END A.
MODULE A; BEGIN IF a THEN x END @y END A.
MODULE A; BEGIN WHILE a @THEN END END A.
MODULE A; BEGIN WHILE a DO @ELSE END END A.
MODULE A; BEGIN WHILE a DO ELSIF b @THEN END END A.
MODULE A; BEGIN REPEAT x @END A.
MODULE A; BEGIN REPEAT UNTIL @END A.
MODULE A; BEGIN REPEAT UNTIL a @x END A.
MODULE A; BEGIN FOR @1 := 1 TO 2 DO END END A.
MODULE A; BEGIN FOR i@.j := 1 TO 2 DO END END A.
MODULE A; BEGIN FOR i @= 1 TO 2 DO END END A.
MODULE A; BEGIN FOR i := 1 @DO END END A.
MODULE A; BEGIN FOR i := 1 @BY 2 DO END END A.
MODULE A; BEGIN FOR i := 1 TO 2 BY @DO END END A.
MODULE A; BEGIN FOR i := 1 TO 2 @END END A.
MODULE A; BEGIN FOR i := 1 TO 2 BY 3 @BY 4 DO END END A.
MODULE A; BEGIN CASE @OF END END A.
MODULE A; BEGIN CASE a @1: END END A.
MODULE A; BEGIN CASE a OF @: END END A.
MODULE A; BEGIN CASE a OF 1 @END END A.
MODULE A; BEGIN CASE a OF 1,@: END END A.
MODULE A; BEGIN CASE a OF 1 .. @: END END A.
MODULE A; BEGIN CASE a OF 1 .. 2 @.. 3: END END A.
MODULE A; BEGIN CASE a OF 1: @ELSE END END A.
MODULE A; BEGIN CASE a OF 1: x; @2: END END A.
MODULE A; BEGIN CASE a OF 1: @: END END A.
MODULE A; CONST c = a < b @< c; END A.
MODULE A; CONST c = a = b @# c; END A.
MODULE A; CONST c = a IN b @IS c; END A.
MODULE A; CONST c = a + @- b; END A.
MODULE A; CONST c = a * @- b; END A.
MODULE A; CONST c = - @- b; END A.
MODULE A; CONST c = ~ @- b; END A.
MODULE A; CONST c = a + b OR @+ c; END A.
MODULE A; CONST c = @* a; END A.
MODULE A; CONST c = @= a; END A.
MODULE A; CONST c = a @NIL; END A.
MODULE A; CONST c = (@); END A.
MODULE A; CONST c = (a@; END A.
MODULE A; CONST c = (a@, b); END A.
MODULE A; CONST c = (a)@.b; END A.
MODULE A; CONST c = (a)@[1]; END A.
MODULE A; CONST c = (a)@^; END A.
MODULE A; CONST c = (a)@(b); END A.
MODULE A; CONST c = {1@; END A.
MODULE A; CONST c = {1,@}; END A.
MODULE A; CONST c = {1 ..@}; END A.
MODULE A; CONST c = {@.. 1}; END A.
MODULE A; CONST c = {1 .. 2 @.. 3}; END A.
MODULE A; CONST c = 1 @.. 2; END A.
MODULE A; CONST c = a @a; END A.
MODULE A; CONST c = 1 @( 2 ); END A.
MODULE A; CONST c = NIL@^; END A.
MODULE A; CONST c = "a"@[1]; END A.
MODULE A; CONST c = @DIV a; END A.
MODULE A; BEGIN x@, y END A.
MODULE A; CONST c = a.@1; END A.
MODULE A; BEGIN CASE a OF 1: | 2 @| END END A.
MODULE A; BEGIN x @| y END A.
`

func TestTokensThatCanNotStand(t *testing.T) {
	for _, s := range strings.Split(strings.Trim(misfits, "\n"), "\n") {
		at := strings.Index(s, "@")
		mustRefuse(t, s[:at]+s[at+1:], at, api.ErrParse)
	}
}

func TestNothing(t *testing.T) {
	for _, s := range []string{"", " ", "\n\t\r ", "(**)", " (* MODULE A; END A. *) ", strings.Repeat(" ", api.MaxText)} {
		mustRefuse(t, s, len(s), api.ErrParse)
	}
}

// What is no token goes first, whatever stands ahead of it.
func TestFaultsOfTokens(t *testing.T) {
	long := strings.Repeat("n", api.MaxName+1)
	for _, ahead := range []string{"", "MODULE A; END A. ", "MODULE MODULE ; ", ") ", "MODULE A; BEGIN " + strings.Repeat("x;", 70) + " END A. ", "MODULE A; BEGIN x := "} {
		for bad, err := range map[string]api.Errno{
			"1.5": api.ErrToken, "!": api.ErrToken, "\"a": api.ErrToken, "(* x": api.ErrToken, "2147483648": api.ErrRange, "100X": api.ErrRange, long: api.ErrLong, `"` + strings.Repeat("t", api.MaxString+1) + `"`: api.ErrLong,
		} {
			mustRefuse(t, ahead+bad, len(ahead), err)
			mustRefuse(t, ahead+bad+"\n ; END", len(ahead), err)
		}
	}
	mustRefuse(t, "MODULE A; END A."+strings.Repeat(" ", api.MaxText), 0, api.ErrLong)
	mustRefuse(t, ") "+strings.Repeat(";", api.MaxTokens), api.MaxTokens+1, api.ErrMany)
	mustRefuse(t, ") "+strings.Repeat(";", api.MaxTokens-1), 0, api.ErrParse)
	mustRefuse(t, "MODULE A; BEGIN "+strings.Repeat(";", api.MaxTokens-6)+" END A.", api.MaxTokens-6+22, api.ErrMany)
	mustParse(t, "MODULE A; BEGIN "+strings.Repeat(";", api.MaxTokens-7)+" END A.")
}

func TestAnswersShareNothing(t *testing.T) {
	for _, s := range append(samples(), sources...) {
		a, b := mustParse(t, s), mustParse(t, s)
		mustShareNothing(t, s, a, b)
		from := uintptr(unsafe.Pointer(unsafe.StringData(s)))
		visit(reflect.ValueOf(a), func(v reflect.Value) {
			if v.Kind() != reflect.String || v.Len() == 0 {
				return
			}
			at := uintptr(unsafe.Pointer(unsafe.StringData(v.String())))
			if at >= from && at < from+uintptr(len(s)) {
				t.Fatalf("%s: a text of the answer is a piece of the source", s)
			}
		})
	}
	// Of a list of names with one type.
	one := "MODULE A; VAR a, b, c: RECORD (M.R) d, e: ARRAY 1 + x[2] OF POINTER TO PROCEDURE (VAR f, g: ARRAY OF T): U END; PROCEDURE P(a, b: ARRAY OF ARRAY OF T); VAR c, d: ARRAY {1 .. 2} OF T; END P; END A."
	m := mustParse(t, one)
	mustShareNothing(t, one, m)
	before := cloned(m)
	m.Vars[0].Type.Fields[0].Type.Lens[0].Args[1].Args[1].N = 77
	m.Vars[0].Type.Base[0].Name = "Q"
	m.Procs[0].Params[0].Type.Elem[0].Elem[0].Name = "Q"
	if !exactly(m.Vars[1:], before.Vars[1:]) || !exactly(m.Vars[0].Type.Fields[1:], before.Vars[0].Type.Fields[1:]) || !exactly(m.Procs[0].Params[1:], before.Procs[0].Params[1:]) {
		t.Error("one type changed with another")
	}
}
