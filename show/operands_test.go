package show

import (
	"slices"
	"strings"
	"testing"

	"spinet/api"
)

const operations = "= # < <= > >= IN IS + - OR * / DIV MOD &"

// sample is an expression, and how it is written where it has no brackets.
type sample struct {
	e    api.Expr
	text string
}

func isOperation(e api.Expr) bool {
	return e.Kind == api.ExUnary || e.Kind == api.ExBinary
}

func samples() []sample {
	x := aName("x")
	dot := with(api.ExDot, x)
	dot.Text = "y"
	l := []sample{
		{anInt(3), "3"},
		{anInt(-3), "0FFFFFFFDH"},
		{aChar(65), "41X"},
		{aText("t"), `"t"`},
		{with(api.ExNil), "NIL"},
		{api.Expr{Kind: api.ExBool}, "FALSE"},
		{api.Expr{Kind: api.ExBool, N: 1}, "TRUE"},
		{with(api.ExSet), "{ }"},
		{with(api.ExSet, x, with(api.ExRange, x, anInt(1))), "{ x , x .. 1 }"},
		{x, "x"},
		{dot, "x . y"},
		{with(api.ExIndex, x, anInt(1)), "x [ 1 ]"},
		{with(api.ExDeref, x), "x ^"},
		{with(api.ExCall, x), "x ( )"},
		{with(api.ExCall, x, x, anInt(2)), "x ( x , 2 )"},
	}
	for _, op := range []string{"+", "-", "~"} {
		l = append(l, sample{unary(op, x), op + " x"})
	}
	for _, op := range strings.Fields(operations) {
		l = append(l, sample{binary(op, x, anInt(1)), "x " + op + " 1"})
	}
	return l
}

// spot is a place of an expression in a module: @ in the text.
type spot struct {
	around func(api.Expr) api.Module
	text   string
}

func mustShowAt(t *testing.T, p spot, e api.Expr, text string) {
	t.Helper()
	mustShow(t, p.around(e), "MODULE A ; "+strings.ReplaceAll(p.text, "@", text)+" .")
}

func operandSpots() []spot {
	var l []spot
	for _, op := range []string{"+", "-", "~"} {
		l = append(l, spot{func(e api.Expr) api.Module { return inConst(unary(op, e)) }, "CONST c = " + op + " @ ; END A"})
	}
	for _, op := range strings.Fields(operations) {
		l = append(l,
			spot{func(e api.Expr) api.Module { return inConst(binary(op, e, anInt(9))) }, "CONST c = @ " + op + " 9 ; END A"},
			spot{func(e api.Expr) api.Module { return inConst(binary(op, anInt(9), e)) }, "CONST c = 9 " + op + " @ ; END A"},
			spot{func(e api.Expr) api.Module { return inConst(binary(op, e, e)) }, "CONST c = @ " + op + " @ ; END A"},
		)
	}
	return l
}

func otherSpots() []spot {
	f, one := aName("f"), anInt(1)
	stat := func(s api.Stat) api.Module { return inBody(s) }
	blocks := func(n int) [][]api.Stat { return make([][]api.Stat, n) }
	return []spot{
		{inConst, "CONST c = @ ; END A"},
		{func(e api.Expr) api.Module {
			return inProc(api.Proc{Name: "P", Consts: []api.Const{{Name: "c", Value: e}}})
		}, "PROCEDURE P ( ) ; CONST c = @ ; END P ; END A"},
		{func(e api.Expr) api.Module { return inProc(api.Proc{Name: "P", Return: []api.Expr{e}}) }, "PROCEDURE P ( ) ; RETURN @ END P ; END A"},
		{func(e api.Expr) api.Module {
			return inType(api.Texpr{Kind: api.TxArray, Lens: []api.Expr{e}, Elem: []api.Texpr{aType("U")}})
		}, "TYPE T = ARRAY @ OF U ; END A"},
		{func(e api.Expr) api.Module {
			return inType(api.Texpr{Kind: api.TxArray, Lens: []api.Expr{one, e, e}, Elem: []api.Texpr{aType("U")}})
		}, "TYPE T = ARRAY 1 , @ , @ OF U ; END A"},
		{func(e api.Expr) api.Module { return inConst(with(api.ExIndex, f, e)) }, "CONST c = f [ @ ] ; END A"},
		{func(e api.Expr) api.Module { return inConst(with(api.ExIndex, with(api.ExIndex, f, e), e)) }, "CONST c = f [ @ ] [ @ ] ; END A"},
		{func(e api.Expr) api.Module { return inConst(with(api.ExCall, f, e)) }, "CONST c = f ( @ ) ; END A"},
		{func(e api.Expr) api.Module { return inConst(with(api.ExCall, f, one, e, e)) }, "CONST c = f ( 1 , @ , @ ) ; END A"},
		{func(e api.Expr) api.Module { return inConst(with(api.ExSet, e)) }, "CONST c = { @ } ; END A"},
		{func(e api.Expr) api.Module {
			return inConst(with(api.ExSet, with(api.ExRange, e, one), e, with(api.ExRange, one, e), with(api.ExRange, e, e)))
		}, "CONST c = { @ .. 1 , @ , 1 .. @ , @ .. @ } ; END A"},
		{func(e api.Expr) api.Module { return inConst(binary("IN", one, with(api.ExSet, e))) }, "CONST c = 1 IN { @ } ; END A"},
		{func(e api.Expr) api.Module { return inConst(unary("-", with(api.ExCall, f, e))) }, "CONST c = - f ( @ ) ; END A"},
		{func(e api.Expr) api.Module { return stat(assign(f, e)) }, "BEGIN f := @ END A"},
		{func(e api.Expr) api.Module { return stat(call(with(api.ExCall, f, e))) }, "BEGIN f ( @ ) END A"},
		{func(e api.Expr) api.Module { return stat(assign(with(api.ExIndex, f, e), e)) }, "BEGIN f [ @ ] := @ END A"},
		{func(e api.Expr) api.Module {
			return stat(api.Stat{Kind: api.StIf, Exprs: []api.Expr{e, e}, Blocks: blocks(3)})
		}, "BEGIN IF @ THEN ELSIF @ THEN ELSE END END A"},
		{func(e api.Expr) api.Module {
			return stat(api.Stat{Kind: api.StWhile, Exprs: []api.Expr{e, e}, Blocks: blocks(2)})
		}, "BEGIN WHILE @ DO ELSIF @ DO END END A"},
		{func(e api.Expr) api.Module {
			return stat(api.Stat{Kind: api.StRepeat, Exprs: []api.Expr{e}, Blocks: blocks(1)})
		}, "BEGIN REPEAT UNTIL @ END A"},
		{func(e api.Expr) api.Module {
			return stat(api.Stat{Kind: api.StFor, Name: "i", Exprs: []api.Expr{e, e}, Blocks: blocks(1)})
		}, "BEGIN FOR i := @ TO @ DO END END A"},
		{func(e api.Expr) api.Module {
			return stat(api.Stat{Kind: api.StFor, Name: "i", Exprs: []api.Expr{e, e, e}, Blocks: blocks(1)})
		}, "BEGIN FOR i := @ TO @ BY @ DO END END A"},
		{func(e api.Expr) api.Module {
			return stat(api.Stat{Kind: api.StCase, Exprs: []api.Expr{e}, Labels: [][]api.Expr{{e, with(api.ExRange, e, e)}, {e}}, Blocks: blocks(2)})
		}, "BEGIN CASE @ OF @ , @ .. @ : | @ : END END A"},
	}
}

func TestOperandsHaveBrackets(t *testing.T) {
	for _, p := range operandSpots() {
		for _, s := range samples() {
			if isOperation(s.e) {
				mustShowAt(t, p, s.e, "( "+s.text+" )")
			} else {
				mustShowAt(t, p, s.e, s.text)
			}
		}
	}
}

func TestNothingElseHasBrackets(t *testing.T) {
	for _, p := range otherSpots() {
		for _, s := range samples() {
			mustShowAt(t, p, s.e, s.text)
		}
	}
}

// What a design goes on behind is a design: it never has brackets.
func TestDesignsHaveNoBrackets(t *testing.T) {
	for _, s := range samples() {
		if !slices.Contains([]int{api.ExName, api.ExDot, api.ExIndex, api.ExDeref, api.ExCall}, s.e.Kind) {
			continue
		}
		dot := with(api.ExDot, s.e)
		dot.Text = "z"
		for text, e := range map[string]api.Expr{
			"@":           s.e,
			"@ . z":       dot,
			"@ [ 5 ]":     with(api.ExIndex, s.e, anInt(5)),
			"@ ^":         with(api.ExDeref, s.e),
			"@ ( )":       with(api.ExCall, s.e),
			"@ ( 5 , 6 )": with(api.ExCall, s.e, anInt(5), anInt(6)),
		} {
			text = strings.ReplaceAll(text, "@", s.text)
			mustShow(t, inBody(call(e)), "MODULE A ; BEGIN "+text+" END A .")
			mustShow(t, inBody(assign(e, unary("~", e))), "MODULE A ; BEGIN "+text+" := ~ "+text+" END A .")
		}
	}
}

// Operations in one another, as deep as may be.
func TestDeepOperations(t *testing.T) {
	e, f, g, text, first, second := aName("x"), aName("x"), aName("x"), "x", "x", "x"
	for i := range api.MaxNest - 1 {
		e, f, g = unary("-", e), binary("+", f, anInt(1)), binary("=", anInt(1), g)
		if i > 0 {
			text, first, second = "( "+text+" )", "( "+first+" )", "( "+second+" )"
		}
		text, first, second = "- "+text, first+" + 1", "1 = "+second
	}
	mustShow(t, inConst(e), "MODULE A ; CONST c = "+text+" ; END A .")
	mustShow(t, inConst(f), "MODULE A ; CONST c = "+first+" ; END A .")
	mustShow(t, inConst(g), "MODULE A ; CONST c = "+second+" ; END A .")
	mustRefuse(t, inConst(unary("-", e)), "too deep")
}
