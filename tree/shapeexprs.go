package tree

import "spinet/api"

// What an expression has, by its kind: the kind of the token that its Text and
// N are (0: of none), how many Args, and whether a design is the first of them.
var exprForms = [...]struct {
	token       int
	least, most int
	ofDesign    bool
}{
	api.ExInt:    {token: api.TokInt},
	api.ExChar:   {token: api.TokChar},
	api.ExText:   {token: api.TokText},
	api.ExNil:    {},
	api.ExBool:   {},
	api.ExSet:    {most: api.MaxList},
	api.ExRange:  {least: 2, most: 2},
	api.ExName:   {token: api.TokName},
	api.ExDot:    {token: api.TokName, least: 1, most: 1, ofDesign: true},
	api.ExIndex:  {least: 2, most: 2, ofDesign: true},
	api.ExDeref:  {least: 1, most: 1, ofDesign: true},
	api.ExCall:   {least: 1, most: api.MaxList, ofDesign: true},
	api.ExUnary:  {least: 1, most: 1},
	api.ExBinary: {least: 2, most: 2},
}

// isDesign tells whether the grammar's design makes such an expression: what
// stands in brackets is none.
func isDesign(e api.Expr) bool {
	switch e.Kind {
	case api.ExName, api.ExDot, api.ExIndex, api.ExDeref, api.ExCall:
		return true
	}
	return false
}

func (f *shape) value(e api.Expr) bool {
	return e.Kind != api.ExRange && f.label(e)
}

func (f *shape) label(e api.Expr) bool {
	if e.Kind < api.ExInt || e.Kind > api.ExBinary {
		return false
	}
	form := exprForms[e.Kind]
	if len(e.Args) < form.least || len(e.Args) > form.most || form.ofDesign && !isDesign(e.Args[0]) {
		return false
	}
	arg := f.value
	if e.Kind == api.ExSet {
		arg = f.label
	}
	return f.content(e, form.token) && f.op(e) && all(e.Args, arg)
}

func (f *shape) content(e api.Expr, kind int) bool {
	if kind != 0 {
		f.tokens = append(f.tokens, api.Token{Kind: kind, Text: e.Text, N: e.N})
		return true
	}
	return e.Text == "" && (e.N == 0 || e.Kind == api.ExBool && e.N == 1)
}

func (f *shape) op(e api.Expr) bool {
	switch e.Kind {
	case api.ExUnary:
		return e.Op == "+" || e.Op == "-" || e.Op == "~"
	case api.ExBinary:
		return f.levels[sign(e.Op)] != 0 || f.levels[key(e.Op)] != 0
	}
	return e.Op == ""
}
