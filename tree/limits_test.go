package tree

import (
	"reflect"
	"sort"
	"strings"
	"testing"

	"spinet/api"
	"spinet/token"
)

func times(n int, s string) string {
	return strings.Repeat(s, max(n, 0))
}

// between is s so many times, with the other text between.
func between(n int, s, sep string) string {
	return times(n-1, s+sep) + s
}

func inBody(s string) string   { return "MODULE A; BEGIN " + s + " END A." }
func inConst(s string) string  { return "MODULE A; CONST c = " + s + "; END A." }
func inType(s string) string   { return "MODULE A; TYPE T = " + s + "; END A." }
func inProc(s string) string   { return "MODULE A; PROCEDURE P; " + s + " END P; END A." }
func inReturn(s string) string { return inProc("RETURN " + s) }

// listsOf are sources in which just one list has n entries, and no other has
// more than two.
func listsOf(n int) []string {
	return []string{
		"MODULE A; IMPORT " + between(n, "B", ",") + "; END A.",
		"MODULE A; IMPORT " + between(n, "B := C", ",") + "; END A.",
		"MODULE A; CONST " + times(n, "c = 1;") + " END A.",
		"MODULE A; TYPE " + times(n, "T = U;") + " END A.",
		"MODULE A; VAR " + times(n, "v: T;") + " END A.",
		"MODULE A; VAR " + between(n, "v", ",") + ": T; END A.",
		"MODULE A; VAR " + between(n-1, "v*", ",") + ": T; w: T; END A.",
		"MODULE A; " + times(n, "PROCEDURE P; END P;") + " END A.",
		inProc("CONST " + times(n, "c = 1;")),
		inProc("TYPE " + times(n, "T = U;")),
		inProc("VAR " + times(n, "v: T;")),
		inProc("VAR " + between(n, "v", ",") + ": T;"),
		inProc("BEGIN " + between(n, "x", ";")),
		inProc("BEGIN " + times(n, "x;") + " RETURN 1"),
		inType("RECORD " + between(n, "f", ",") + ": T END"),
		inType("RECORD " + between(n, "f: T", ";") + " END"),
		inType("RECORD " + between(n-2, "f*", ",") + ": T; g: T; h: U END"),
		"MODULE A; VAR v: RECORD " + between(n, "f", ",") + ": T END; END A.",
		inType("PROCEDURE (" + between(n, "p", ",") + ": T)"),
		inType("PROCEDURE (" + between(n, "VAR p: ARRAY OF T", ";") + "): T"),
		"MODULE A; PROCEDURE P(" + between(n, "p", ",") + ": T); END P; END A.",
		"MODULE A; PROCEDURE P(" + between(n-1, "p: T", ";") + "; VAR q: T); END P; END A.",
		inType("ARRAY " + between(n, "1", ",") + " OF T"),
		"MODULE A; VAR v: ARRAY " + between(n, "k", ",") + " OF T; END A.",
		inConst("{" + between(n, "1", ",") + "}"),
		inConst("{" + between(n, "1 .. 2", ",") + "}"),
		inConst("f(" + between(n-1, "1", ",") + ")"),
		inBody("f(" + between(n-1, "x", ",") + ")"),
		inBody("CASE x OF " + between(n, "1:", "|") + " END"),
		inBody("CASE x OF " + between(n, "1: y", "| |") + " END"),
		inBody("CASE x OF " + between(n, "1", ",") + ": END"),
		inBody("CASE x OF 1: | " + between(n, "1 .. 2", ",") + ": END"),
		inBody("IF a THEN " + times(n-1, "ELSIF b THEN ") + "END"),
		inBody("IF a THEN " + times(n-2, "ELSIF b THEN ") + "ELSE END"),
		inBody("WHILE a DO " + times(n-1, "ELSIF b DO ") + "END"),
		inBody(between(n, "x", ";")),
		inBody(between(n, "x", ";;")),
		inBody("IF a THEN " + between(n, "x", ";") + " END"),
		inBody("IF a THEN ELSIF b THEN " + between(n, "x", ";") + " END"),
		inBody("IF a THEN ELSE " + between(n, "x", ";") + " END"),
		inBody("WHILE a DO " + between(n, "x", ";") + " END"),
		inBody("WHILE a DO ELSIF b DO " + between(n, "x", ";") + " END"),
		inBody("REPEAT " + between(n, "x", ";") + " UNTIL a"),
		inBody("FOR i := 1 TO 2 DO " + between(n, "x", ";") + " END"),
		inBody("CASE x OF 1: | 2: " + between(n, "x", ";") + " END"),
	}
}

// longest is how long the longest list of a module is.
func longest(m api.Module) int {
	n := 0
	visit(reflect.ValueOf(m), func(v reflect.Value) {
		if v.Kind() == reflect.Slice {
			n = max(n, v.Len())
		}
	})
	return n
}

func TestListsThatAreFull(t *testing.T) {
	for _, n := range []int{3, api.MaxList - 1, api.MaxList} {
		for _, s := range listsOf(n) {
			m := mustParse(t, s)
			if longest(m) != n || !Check(m) || Size(m) != nodesOf(m) {
				t.Errorf("%d, want %d: %s", longest(m), n, s)
			}
			mustShareNothing(t, s, m)
		}
	}
}

func TestListsThatAreTooLong(t *testing.T) {
	for _, n := range []int{api.MaxList + 1, api.MaxList + 2, 2 * api.MaxList, 600} {
		for _, s := range listsOf(n) {
			mustRefuse(t, s, 0, api.ErrMany)
			// A token that can't stand goes first, wherever it stands.
			mustRefuse(t, s+" x", len(s)+1, api.ErrParse)
			mustRefuse(t, s[:len(s)-1], len(s)-1, api.ErrParse)
			// So does what is no token.
			mustRefuse(t, s+" x !", len(s)+3, api.ErrToken)
			// And too many go ahead of too deep.
			deep := strings.Replace(s, "MODULE A;", "MODULE A; PROCEDURE Q; RETURN "+times(200, "~")+"a END Q;", 1)
			if !strings.Contains(s, "IMPORT") && !strings.Contains(s, "CONST") && !strings.Contains(s, "TYPE") && !strings.Contains(s, "VAR") {
				mustRefuse(t, deep, 0, api.ErrMany)
			}
		}
	}
}

// One entry more in any of the lists that are full.
func TestCheckOfListsThatAreTooLong(t *testing.T) {
	for _, s := range listsOf(api.MaxList) {
		m := mustParse(t, s)
		found := 0
		visit(reflect.ValueOf(&m).Elem(), func(v reflect.Value) {
			if v.Kind() != reflect.Slice || v.Len() != api.MaxList {
				return
			}
			// A statement's other lists grow, too, so that only the length is
			// wrong.
			found++
			v.Set(reflect.Append(v, v.Index(0)))
		})
		if found == 0 || Check(m) {
			t.Errorf("%d: %s", found, s)
		}
	}
}

// What has no list of its own may stand any number of times.
func TestWhatMakesNoEntry(t *testing.T) {
	for _, s := range []string{
		inBody(times(2000, ";")),
		inBody("x" + times(2000, ";") + "y"),
		inBody("CASE x OF " + times(2000, "|") + " END"),
		inBody("CASE x OF 1: " + times(2000, "|") + " 2: END"),
		inType("RECORD " + times(2000, ";") + " END"),
		inType("RECORD a: T" + times(2000, ";") + " b: T END"),
		inConst(times(2900, "(") + "1" + times(2900, ")")),
		inConst("-" + times(2900, "(") + "- x" + times(2900, ")")),
		inBody("x := " + times(100, "(") + "a.b" + times(100, ")") + "+" + times(100, "(") + "c" + times(100, ")")),
	} {
		m := mustParse(t, s)
		if longest(m) > 2 || Size(m) > 8 || !Check(m) {
			t.Error(s, m)
		}
	}
}

// ofNodes is a source of just n nodes: 122 in a loop of 60 calls, one in a
// constant.
func ofNodes(n int) string {
	consts, body := "", ""
	if n%2 == 1 {
		consts = "CONST c = 1;"
	}
	for left := n / 2; left > 0; {
		calls := min(left, 61) - 1
		body += "REPEAT " + times(calls, "x;") + " UNTIL a;"
		left -= calls + 1
	}
	return "MODULE A; " + consts + " BEGIN " + body + " END A."
}

func TestNodesThatAreTooMany(t *testing.T) {
	for n := 0; n <= api.MaxNodes+200; n++ {
		if n > 200 && n < api.MaxNodes-5 && n%100 != 0 {
			continue
		}
		s := ofNodes(n)
		if n > api.MaxNodes {
			mustRefuse(t, s, 0, api.ErrMany)
			mustRefuse(t, s+"!", len(s), api.ErrToken)
			mustRefuse(t, s+"END", len(s), api.ErrParse)
			continue
		}
		m := mustParse(t, s)
		if Size(m) != n || nodesOf(m) != n || !Check(m) {
			t.Fatal(n, Size(m), nodesOf(m))
		}
	}
}

// Exactly MaxNodes, and one more: by statements, by expressions, by types that
// names of a list share.
func TestNodesThatAreJustEnough(t *testing.T) {
	names := "MODULE A; VAR " + between(64, "v", ",") + ": RECORD " + between(61, "f", ",") + ": T END; BEGIN " + between(16, "x", ";") + " END A."
	opens := "MODULE A; PROCEDURE P(" + between(50, "p", ",") + ": " + times(39, "ARRAY OF ") + "T); END P; PROCEDURE Q(" + between(50, "p", ",") + ": " + times(39, "ARRAY OF ") + "T); END Q; END A."
	exprs := inBody(times(31, "x := "+between(63, "1", "+")+";") + "x := " + between(31, "1", "+"))
	for _, s := range []string{ofNodes(api.MaxNodes), names, opens, exprs} {
		m := mustParse(t, s)
		if Size(m) != api.MaxNodes || nodesOf(m) != api.MaxNodes || !Check(m) {
			t.Fatalf("%d nodes: %.100s", Size(m), s)
		}
		mustShareNothing(t, s, m)
		more := strings.Replace(s, "MODULE A;", "MODULE A; CONST c = 1;", 1)
		mustRefuse(t, more, 0, api.ErrMany)
		mustRefuse(t, more+";", len(more), api.ErrParse)
		m.Consts = append(m.Consts, api.Const{Name: "c", Value: oneInt})
		if Check(m) || Size(m) != api.MaxNodes+1 {
			t.Errorf("%d nodes: %.100s", Size(m), s)
		}
	}
}

// Lists of names within one another make more types than any memory holds.
func TestTypesOfManyNames(t *testing.T) {
	nested := func(n int, names string) string {
		return "MODULE A; VAR " + names + ": " + times(n, "RECORD "+names+": ") + "T" + times(n, " END") + "; END A."
	}
	m := mustParse(t, nested(9, "a, b"))
	if Size(m) != 2*1023 || nodesOf(m) != Size(m) || !Check(m) {
		t.Error(Size(m), nodesOf(m))
	}
	mustShareNothing(t, "nested names", m)
	mustRefuse(t, nested(10, "a, b"), 0, api.ErrMany)
	mustParse(t, nested(63, "a"))
	mustRefuse(t, nested(64, "a"), 0, api.ErrDeep)
	for _, n := range []int{64, 65, 200, 500} {
		for _, names := range []string{"a, b", "a, b, c*", "a, b, c, d"} {
			s := nested(n, names)
			mustRefuse(t, s, 0, api.ErrMany)
			mustRefuse(t, s[:len(s)-1]+";", len(s)-1, api.ErrParse)
		}
	}
	mustRefuse(t, nested(40, between(60, "a", ",")), 0, api.ErrMany)
	mustRefuse(t, nested(1, between(1400, "a", ",")), 0, api.ErrMany)
	mustRefuse(t, "MODULE A; VAR "+between(1500, "a", ",")+": ARRAY "+between(1400, "1", "+")+" OF T; END A.", 0, api.ErrMany)
}

// deepWays are sources with nodes that stand d deep in one another, ten or more.
func deepWays(d int) []string {
	return []string{
		inBody("x := " + times(d-2, "~") + "y"),
		inBody("x := " + times(d-2, "~(") + "y" + times(d-2, ")")),
		inBody("x := " + times(d-2, "-(") + "y" + times(d-2, ")")),
		inBody("x" + times(d-2, ".y")),
		inBody("x" + times(d-2, "^")),
		inBody("x" + times(d-2, "()")),
		inBody("x" + times(d-2, "[1]")),
		inBody("x" + times(d-4, "[1]") + ".y^ := 1"),
		inBody("x[" + between(d-2, "1", ",") + "]"),
		inBody("x[" + between(d-4, "1", ",") + "].y(1) := 2"),
		inBody(times(d-2, "x[") + "y" + times(d-2, "]")),
		inBody(times(d-2, "x(") + "y" + times(d-2, ")")),
		inBody(times(d-2, "x(1, ") + "y" + times(d-2, ")")),
		inBody("x := " + times(d-2, "{") + "y" + times(d-2, "}")),
		inBody("x := {" + times(d-4, "~") + "y .. 1}"),
		inBody("x := {1 .. " + times(d-4, "~") + "y}"),
		inBody("x := " + between(d-1, "y", "+")),
		inBody("x := " + between(d-1, "y", "*")),
		inBody("x := -" + between(d-2, "y", " DIV ")),
		inBody("x := -y" + times(d-3, " OR y")),
		inBody("x := " + times(d-2, "y + (") + "y" + times(d-2, ")")),
		inBody("x := " + times(d-2, "y = (") + "y" + times(d-2, ")")),
		inConst(times(d-1, "~") + "y"),
		inConst("(" + between(d, "y", "-") + ")"),
		inReturn(times(d-1, "~") + "y"),
		inProc("CONST c = " + times(d-1, "~") + "y;"),
		inType(times(d-1, "POINTER TO ") + "T"),
		inType(times(d-1, "ARRAY 1 OF ") + "T"),
		inType(times(d-1, "RECORD a: ") + "RECORD END" + times(d-1, " END") + "; U = RECORD (T) END"),
		inType(times(d-2, "RECORD a: ") + "RECORD (T) END" + times(d-2, " END")),
		inType(times(d-2, "POINTER TO ") + "PROCEDURE (): T"),
		inType(times(d-3, "POINTER TO ") + "PROCEDURE (VAR a, b: ARRAY OF T)"),
		inType("PROCEDURE (a: " + times(d-2, "ARRAY OF ") + "T)"),
		inType("ARRAY " + times(d-2, "~") + "x OF T"),
		inType("ARRAY 1, " + times(d-2, "~") + "x OF T"),
		inProc("VAR v: " + times(d-1, "POINTER TO ") + "T;"),
		"MODULE A; VAR v: " + times(d-1, "ARRAY 1 OF ") + "T; END A.",
		"MODULE A; PROCEDURE P(a: " + times(d-1, "ARRAY OF ") + "T); END P; END A.",
		inBody(times(d-1, "IF a THEN ") + times(d-1, "END ")),
		inBody(times(d-1, "IF a THEN ELSIF b THEN ") + times(d-1, "END ")),
		inBody(times(d-1, "IF a THEN ELSE ") + times(d-1, "END ")),
		inBody(times(d-2, "IF a THEN ") + "x" + times(d-2, " END")),
		inBody(times(d-1, "WHILE a DO ") + times(d-1, "END ")),
		inBody(times(d-1, "REPEAT ") + between(d-1, "UNTIL a", " ")),
		inBody(times(d-1, "FOR i := 1 TO 2 DO ") + times(d-1, "END ")),
		inBody(times(d-1, "CASE a OF 1: ") + times(d-1, "END ")),
		inBody("CASE a OF " + times(d-2, "~") + "x: END"),
		inBody("CASE a OF 1, 2 .. " + times(d-3, "~") + "x: END"),
		inBody("FOR i := 1 TO 2 BY " + times(d-2, "~") + "x DO END"),
		inProc("BEGIN " + times(d-1, "REPEAT ") + between(d-1, "UNTIL a", " ")),
		inBody(times(d/2, "REPEAT ") + "x := " + times(d-d/2-2, "~") + "y" + times(d/2, " UNTIL a")),
	}
}

func deepestOf(v reflect.Value, ahead int) int {
	switch v.Interface().(type) {
	case api.Expr, api.Stat, api.Texpr:
		ahead++
	}
	n := ahead
	switch v.Kind() {
	case reflect.Struct:
		for i := range v.NumField() {
			n = max(n, deepestOf(v.Field(i), ahead))
		}
	case reflect.Slice:
		for i := range v.Len() {
			n = max(n, deepestOf(v.Index(i), ahead))
		}
	}
	return n
}

func TestNodesInOneAnother(t *testing.T) {
	for _, d := range []int{10, 11, api.MaxNest - 1, api.MaxNest} {
		for _, s := range deepWays(d) {
			m := mustParse(t, s)
			if n := deepestOf(reflect.ValueOf(m), 0); n != d || !Check(m) {
				t.Errorf("%d deep, want %d: %s", n, d, s)
			}
		}
	}
	for _, d := range []int{api.MaxNest + 1, api.MaxNest + 2, 150} {
		for _, s := range deepWays(d) {
			mustRefuse(t, s, 0, api.ErrDeep)
			mustRefuse(t, s+" .", len(s)+1, api.ErrParse)
			mustRefuse(t, strings.Replace(s, "MODULE A;", "MODULE A; ;", 1), 10, api.ErrParse)
			mustRefuse(t, strings.Replace(s, "MODULE A;", "MODULE A; IMPORT "+between(65, "B", ",")+";", 1), 0, api.ErrMany)
		}
	}
}

// Of what is full, one deeper: by an expression, a statement, a type around it.
func TestCheckOfWhatIsTooDeep(t *testing.T) {
	for _, s := range deepWays(api.MaxNest) {
		m := mustParse(t, s)
		for i := range m.Consts {
			m.Consts[i].Value = api.Expr{Kind: api.ExUnary, Op: "~", Args: []api.Expr{m.Consts[i].Value}}
		}
		for i := range m.Types {
			m.Types[i].Type = api.Texpr{Kind: api.TxPointer, Elem: []api.Texpr{m.Types[i].Type}}
		}
		for i := range m.Vars {
			m.Vars[i].Type = api.Texpr{Kind: api.TxPointer, Elem: []api.Texpr{m.Vars[i].Type}}
		}
		for i := range m.Procs {
			deeper(&m.Procs[i])
		}
		if len(m.Body) > 0 {
			m.Body = []api.Stat{{Kind: api.StRepeat, Exprs: []api.Expr{oneName}, Blocks: [][]api.Stat{m.Body}}}
		}
		if n := deepestOf(reflect.ValueOf(m), 0); n != api.MaxNest+1 || Check(m) {
			t.Errorf("%d deep: %s", n, s)
		}
	}
}

func deeper(p *api.Proc) {
	for i := range p.Params {
		p.Params[i].Type = api.Texpr{Kind: api.TxOpen, Elem: []api.Texpr{p.Params[i].Type}}
	}
	for i := range p.Consts {
		p.Consts[i].Value = api.Expr{Kind: api.ExUnary, Op: "-", Args: []api.Expr{p.Consts[i].Value}}
	}
	for i := range p.Vars {
		p.Vars[i].Type = api.Texpr{Kind: api.TxPointer, Elem: []api.Texpr{p.Vars[i].Type}}
	}
	for i := range p.Return {
		p.Return[i] = api.Expr{Kind: api.ExUnary, Op: "-", Args: []api.Expr{p.Return[i]}}
	}
	if len(p.Body) > 0 {
		p.Body = []api.Stat{{Kind: api.StRepeat, Exprs: []api.Expr{oneName}, Blocks: [][]api.Stat{p.Body}}}
	}
}

// deepestText opens and closes as often as tokens and bytes let; blanks fill it
// up.
func deepestText(ahead, opens, inside, closes, behind string) string {
	text := func(n int) string { return ahead + times(n, opens) + inside + times(n, closes) + behind }
	n := sort.Search(api.MaxText, func(n int) bool {
		_, _, err := token.Lex(text(n + 1))
		return err != api.OK
	})
	s := text(n)
	return s + times(api.MaxText-len(s), " ")
}

func TestTextsAsDeepAsTheyMayBe(t *testing.T) {
	const body = "MODULE A; BEGIN "
	for _, w := range []struct {
		ahead, opens, inside, closes string
		err                          api.Errno
	}{
		{body + "x:=", "(", "y", ")", api.OK},
		{body + "x:=", "-(", "y", ")", api.ErrDeep},
		{body + "x:=", "~", "y", "", api.ErrMany},
		{body + "x:=", "{", "y", "}", api.ErrDeep},
		{body + "x:=", "y+(", "y", ")", api.ErrDeep},
		{body + "x:=y", "+y", "", "", api.ErrMany},
		{body, "x[", "y", "]", api.ErrDeep},
		{body, "x(", "y", ")", api.ErrDeep},
		{body, "x((", "y", "))", api.ErrDeep},
		{body + "x", "^", "", "", api.ErrMany},
		{body + "x", ".y", "", "", api.ErrDeep},
		{body + "x", "()", "", "", api.ErrDeep},
		{body + "x", "[1]", "", "", api.ErrDeep},
		{body + "x[1", ",1", "]", "", api.ErrMany},
		{body, "IF a THEN ", "x", " END", api.ErrDeep},
		{body, "WHILE a DO ", "x", " END", api.ErrDeep},
		{body, "REPEAT ", "x", " UNTIL a", api.ErrDeep},
		{body, "CASE a OF 1:", "x", " END", api.ErrDeep},
		{body, "FOR i:=1 TO 2 DO ", "x", " END", api.ErrDeep},
		{"MODULE A; VAR v: ", "ARRAY 1 OF ", "T", "", api.ErrDeep},
		{"MODULE A; VAR v: ", "POINTER TO ", "T", "", api.ErrDeep},
		{"MODULE A; VAR v: ", "RECORD a:", "T", " END", api.ErrDeep},
		{"MODULE A; VAR v: ", "RECORD a,b:", "T", " END", api.ErrMany},
		{"MODULE A; TYPE P=PROCEDURE(a:", "ARRAY OF ", "T)", "", api.ErrDeep},
	} {
		end := " END A."
		if !strings.HasPrefix(w.ahead, body) {
			end = "; END A."
		}
		s := deepestText(w.ahead, w.opens, w.inside, w.closes, end)
		if len(s) != api.MaxText {
			t.Fatal(len(s))
		}
		if w.err == api.OK {
			mustParse(t, s)
		} else {
			mustRefuse(t, s, 0, w.err)
		}
		// Without what closes: something lacks at the end.
		s = deepestText(w.ahead, w.opens, "", "", "")
		if m, at, err := Parse(s); err != api.ErrParse || at != api.MaxText || !isZero(m) {
			t.Errorf("%.60s: %d, %v", s, at, err)
		}
	}
	mustRefuse(t, times(api.MaxText, "("), api.MaxTokens, api.ErrMany)
	mustRefuse(t, times(api.MaxText+1, "("), 0, api.ErrLong)
	mustRefuse(t, times(api.MaxText/2, "(*"), 0, api.ErrToken)
	mustRefuse(t, times(api.MaxText/4, "(*")+times(api.MaxText/4, "*)"), api.MaxText, api.ErrParse)
}
