package show

import "spinet/api"

func (w writer) exprs(l []api.Expr) {
	list(w, ",", l, w.expr)
}

func (w writer) expr(e api.Expr) {
	switch e.Kind {
	case api.ExSet:
		w.fixed("{")
		w.exprs(e.Args)
		w.fixed("}")
	case api.ExRange:
		list(w, "..", e.Args, w.expr)
	case api.ExUnary:
		w.fixed(e.Op)
		w.operand(e.Args[0])
	case api.ExBinary:
		list(w, e.Op, e.Args, w.operand)
	case api.ExDot, api.ExIndex, api.ExDeref, api.ExCall:
		w.design(e)
	default:
		w.leaf(e)
	}
}

// operand has brackets around every operation, whether the grammar needs them
// or not.
func (w writer) operand(e api.Expr) {
	if e.Kind != api.ExUnary && e.Kind != api.ExBinary {
		w.expr(e)
		return
	}
	w.fixed("(")
	w.expr(e)
	w.fixed(")")
}

func (w writer) design(e api.Expr) {
	w.expr(e.Args[0])
	switch e.Kind {
	case api.ExDot:
		w.fixed(".")
		w.name(e.Text)
	case api.ExIndex:
		w.fixed("[")
		w.expr(e.Args[1])
		w.fixed("]")
	case api.ExDeref:
		w.fixed("^")
	case api.ExCall:
		w.fixed("(")
		w.exprs(e.Args[1:])
		w.fixed(")")
	}
}

func (w writer) leaf(e api.Expr) {
	switch e.Kind {
	case api.ExInt:
		w.put(api.Token{Kind: api.TokInt, N: e.N})
	case api.ExChar:
		w.put(api.Token{Kind: api.TokChar, N: e.N})
	case api.ExText:
		w.put(api.Token{Kind: api.TokText, Text: e.Text})
	case api.ExName:
		w.name(e.Text)
	case api.ExNil:
		w.fixed("NIL")
	case api.ExBool:
		w.fixed(truth(e.N))
	}
}

func truth(n int) string {
	if n == 0 {
		return "FALSE"
	}
	return "TRUE"
}
