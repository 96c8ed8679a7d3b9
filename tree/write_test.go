package tree

import (
	"fmt"
	"math/rand"
	"slices"
	"strings"

	"spinet/api"
)

// writer writes a module as a source, and notes in the module where each of its
// things stands. Where there are several ways to write a thing, the dice tell;
// without dice it is the plainest one. What the kind of a thing does not have
// is not written, so that a module that no source makes is read as another.
type writer struct {
	b    strings.Builder
	dice *rand.Rand
	bad  bool // a kind that there is not, a part that lacks
}

func written(m *api.Module, dice *rand.Rand) (string, bool) {
	w := &writer{dice: dice}
	w.gap()
	w.module(m)
	return w.b.String(), !w.bad
}

func (w *writer) chance(n int) bool {
	return w.dice != nil && w.dice.Intn(n) == 0
}

func (w *writer) gap() {
	if w.dice == nil {
		w.b.WriteByte(' ')
		return
	}
	w.b.WriteString(someGap(w.dice)())
}

func (w *writer) put(s string) int {
	at := w.b.Len()
	w.b.WriteString(s)
	w.gap()
	return at
}

func (w *writer) lacks(there, wanted int) bool {
	w.bad = w.bad || there < wanted
	return there < wanted
}

func (w *writer) def(name string, export bool) int {
	at := w.put(name)
	if export {
		w.put("*")
	}
	return at
}

func (w *writer) module(m *api.Module) {
	m.At = w.put("MODULE")
	w.put(m.Name)
	w.put(";")
	for i := range m.Imports {
		w.put([]string{"IMPORT", ","}[min(i, 1)])
		x := &m.Imports[i]
		x.At = w.put(x.Alias)
		if x.Alias != x.Name || w.chance(3) {
			w.put(":=")
			w.put(x.Name)
		}
	}
	if len(m.Imports) > 0 {
		w.put(";")
	}
	w.decls(m.Consts, m.Types, m.Vars)
	for i := range m.Procs {
		w.proc(&m.Procs[i])
	}
	w.body(m.Body)
	w.put("END")
	w.put(m.Name)
	w.put(".")
}

func (w *writer) decls(consts []api.Const, types []api.Type, vars []api.Var) {
	if len(consts) > 0 || w.chance(4) {
		w.put("CONST")
	}
	for i := range consts {
		x := &consts[i]
		x.At = w.def(x.Name, x.Export)
		w.put("=")
		w.expr(&x.Value, 0)
		w.put(";")
	}
	if len(types) > 0 || w.chance(4) {
		w.put("TYPE")
	}
	for i := range types {
		x := &types[i]
		x.At = w.def(x.Name, x.Export)
		w.put("=")
		w.texpr(&x.Type)
		w.put(";")
	}
	if len(vars) > 0 || w.chance(4) {
		w.put("VAR")
	}
	for i := 0; i < len(vars); i++ {
		first := i
		vars[i].At = w.def(vars[i].Name, vars[i].Export)
		for i+1 < len(vars) && alike(vars[i].Type, vars[i+1].Type) && w.chance(2) {
			i++
			w.put(",")
			vars[i].At = w.def(vars[i].Name, vars[i].Export)
		}
		w.put(":")
		w.texpr(&vars[first].Type)
		for k := first; k <= i; k++ {
			vars[k].Type = vars[first].Type
		}
		w.put(";")
	}
}

func (w *writer) proc(x *api.Proc) {
	x.At = w.put("PROCEDURE")
	w.def(x.Name, x.Export)
	w.formals(x.Params, x.Result)
	w.put(";")
	w.decls(x.Consts, x.Types, x.Vars)
	w.body(x.Body)
	if len(x.Return) > 0 {
		w.put("RETURN")
		w.expr(&x.Return[0], 0)
	}
	w.put("END")
	w.put(x.Name)
	w.put(";")
}

func (w *writer) formals(params []api.Param, result []api.Texpr) {
	if len(params)+len(result) == 0 && !w.chance(2) {
		return
	}
	w.put("(")
	for i := 0; i < len(params); i++ {
		if i > 0 {
			w.put(";")
		}
		if params[i].Var {
			w.put("VAR")
		}
		first := i
		params[i].At = w.put(params[i].Name)
		for i+1 < len(params) && params[i].Var == params[i+1].Var && alike(params[i].Type, params[i+1].Type) && w.chance(2) {
			i++
			w.put(",")
			params[i].At = w.put(params[i].Name)
		}
		w.put(":")
		w.paramType(&params[first].Type)
		for k := first; k <= i; k++ {
			params[k].Type = params[first].Type
		}
	}
	w.put(")")
	if len(result) > 0 {
		w.put(":")
		w.texpr(&result[0])
	}
}

func (w *writer) paramType(t *api.Texpr) {
	if t.Kind != api.TxOpen || w.lacks(len(t.Elem), 1) {
		w.texpr(t)
		return
	}
	t.At = w.put("ARRAY")
	w.put("OF")
	w.paramType(&t.Elem[0])
}

func (w *writer) texpr(t *api.Texpr) {
	switch t.Kind {
	case api.TxName:
		at := w.b.Len()
		if t.Mod != "" {
			w.put(t.Mod)
			w.put(".")
		}
		w.put(t.Name)
		t.At = at
	case api.TxArray:
		if w.lacks(len(t.Lens), 1) || w.lacks(len(t.Elem), 1) {
			return
		}
		t.At = w.put("ARRAY")
		w.exprs(t.Lens, ",", func(e *api.Expr) { w.expr(e, 0) })
		w.put("OF")
		w.texpr(&t.Elem[0])
	case api.TxRecord:
		t.At = w.put("RECORD")
		if len(t.Base) > 0 {
			w.put("(")
			w.texpr(&t.Base[0])
			w.put(")")
		}
		w.fields(t.Fields)
		w.put("END")
	case api.TxPointer:
		if w.lacks(len(t.Elem), 1) {
			return
		}
		t.At = w.put("POINTER")
		w.put("TO")
		w.texpr(&t.Elem[0])
	case api.TxProc:
		t.At = w.put("PROCEDURE")
		w.formals(t.Params, t.Result)
	default:
		w.bad = true
	}
}

func (w *writer) fields(l []api.Field) {
	for w.chance(4) {
		w.put(";")
	}
	for i := 0; i < len(l); i++ {
		if i > 0 {
			w.put(";")
		}
		first := i
		l[i].At = w.def(l[i].Name, l[i].Export)
		for i+1 < len(l) && alike(l[i].Type, l[i+1].Type) && w.chance(2) {
			i++
			w.put(",")
			l[i].At = w.def(l[i].Name, l[i].Export)
		}
		w.put(":")
		w.texpr(&l[first].Type)
		for k := first; k <= i; k++ {
			l[k].Type = l[first].Type
		}
		for w.chance(4) {
			w.put(";")
		}
	}
}

func (w *writer) exprs(l []api.Expr, between string, one func(*api.Expr)) {
	for i := range l {
		if i > 0 {
			w.put(between)
		}
		one(&l[i])
	}
}

// What level of the grammar makes an expression: 0 expr, 1 simple, 2 term, 3
// factor.
func levelOf(e *api.Expr) int {
	if e.Kind == api.ExUnary && e.Op != "~" {
		return 1
	}
	if e.Kind != api.ExBinary {
		return 3
	}
	if slices.Contains([]string{"*", "/", "DIV", "MOD", "&"}, e.Op) {
		return 2
	}
	if slices.Contains([]string{"+", "-", "OR"}, e.Op) {
		return 1
	}
	return 0
}

func (w *writer) expr(e *api.Expr, level int) {
	if levelOf(e) < level || w.chance(8) {
		w.put("(")
		w.expr(e, 0)
		w.put(")")
		return
	}
	switch e.Kind {
	case api.ExSet:
		e.At = w.put("{")
		w.exprs(e.Args, ",", w.label)
		w.put("}")
	case api.ExUnary:
		if !w.lacks(len(e.Args), 1) {
			operand := 2
			if e.Op == "~" {
				operand = 3
			}
			e.At = w.put(e.Op)
			w.expr(&e.Args[0], operand)
		}
	case api.ExBinary:
		if !w.lacks(len(e.Args), 2) {
			n := levelOf(e)
			w.expr(&e.Args[0], max(n, 1))
			w.put(e.Op)
			w.expr(&e.Args[1], n+1)
			e.At = e.Args[0].At
		}
	case api.ExDot, api.ExIndex, api.ExDeref, api.ExCall:
		w.design(e)
	default:
		w.leaf(e)
	}
}

func (w *writer) leaf(e *api.Expr) {
	text := ""
	switch e.Kind {
	case api.ExInt:
		text = fmt.Sprint(e.N)
		if e.N < 0 || w.chance(3) {
			text = fmt.Sprintf("0%XH", uint32(e.N))
		}
	case api.ExChar:
		text = fmt.Sprintf("0%XX", e.N)
	case api.ExText:
		text = `"` + e.Text + `"`
	case api.ExNil:
		text = "NIL"
	case api.ExBool:
		text = "FALSE"
		if e.N != 0 {
			text = "TRUE"
		}
	case api.ExName:
		text = e.Text
	default:
		w.bad = true
	}
	e.At = w.put(text)
}

func (w *writer) label(e *api.Expr) {
	if e.Kind != api.ExRange || w.lacks(len(e.Args), 2) {
		w.expr(e, 0)
		return
	}
	e.At = w.b.Len()
	w.expr(&e.Args[0], 0)
	w.put("..")
	w.expr(&e.Args[1], 0)
}

// design writes what goes on behind Args[0], which must be a design itself.
func (w *writer) design(e *api.Expr) {
	if w.lacks(len(e.Args), 1) {
		return
	}
	first := &e.Args[0]
	switch first.Kind {
	case api.ExName:
		w.leaf(first)
	case api.ExDot, api.ExIndex, api.ExDeref, api.ExCall:
		w.design(first)
	default:
		w.bad = true
	}
	switch e.Kind {
	case api.ExDot:
		w.put(".")
		w.put(e.Text)
	case api.ExIndex:
		w.index(e)
	case api.ExDeref:
		w.put("^")
	case api.ExCall:
		w.put("(")
		w.exprs(e.Args[1:], ",", func(e *api.Expr) { w.expr(e, 0) })
		w.put(")")
	}
	e.At = first.At
}

// index writes an index in its own brackets, or takes up the last ones again.
func (w *writer) index(e *api.Expr) {
	if w.lacks(len(e.Args), 2) {
		return
	}
	text := w.b.String()
	last := strings.LastIndex(text, "]")
	if e.Args[0].Kind == api.ExIndex && last >= 0 && w.chance(2) {
		w.b.Reset()
		w.b.WriteString(text[:last] + "," + text[last+1:])
	} else {
		w.put("[")
	}
	w.expr(&e.Args[1], 0)
	w.put("]")
}

func (w *writer) body(l []api.Stat) {
	if len(l) > 0 || w.chance(3) {
		w.put("BEGIN")
		w.block(l)
	}
}

func (w *writer) block(l []api.Stat) {
	for w.chance(5) {
		w.put(";")
	}
	for i := range l {
		if i > 0 {
			w.put(";")
		}
		w.stat(&l[i])
		for w.chance(5) {
			w.put(";")
		}
	}
}

func (w *writer) stat(s *api.Stat) {
	exprs, blocks := len(s.Exprs), len(s.Blocks)
	switch s.Kind {
	case api.StAssign, api.StCall:
		if w.lacks(exprs, 3-s.Kind) {
			return
		}
		at := w.b.Len()
		if s.Exprs[0].Kind == api.ExName {
			w.leaf(&s.Exprs[0])
		} else {
			w.design(&s.Exprs[0])
		}
		if s.Kind == api.StAssign {
			w.put(":=")
			w.expr(&s.Exprs[1], 0)
		}
		s.At = at
	case api.StIf, api.StWhile:
		if !w.lacks(exprs, 1) && !w.lacks(blocks, exprs) {
			w.branches(s)
		}
	case api.StCase:
		if !w.lacks(exprs, 1) && !w.lacks(blocks, len(s.Labels)) {
			w.cases(s)
		}
	case api.StRepeat:
		if !w.lacks(exprs, 1) && !w.lacks(blocks, 1) {
			s.At = w.put("REPEAT")
			w.block(s.Blocks[0])
			w.put("UNTIL")
			w.expr(&s.Exprs[0], 0)
		}
	case api.StFor:
		if !w.lacks(exprs, 2) && !w.lacks(blocks, 1) {
			w.loop(s)
		}
	default:
		w.bad = true
	}
}

func (w *writer) branches(s *api.Stat) {
	words := []string{"IF", "THEN"}
	if s.Kind == api.StWhile {
		words = []string{"WHILE", "DO"}
	}
	for i := range s.Exprs {
		if i == 0 {
			s.At = w.put(words[0])
		} else {
			w.put("ELSIF")
		}
		w.expr(&s.Exprs[i], 0)
		w.put(words[1])
		w.block(s.Blocks[i])
	}
	if len(s.Blocks) > len(s.Exprs) {
		w.put("ELSE")
		w.block(s.Blocks[len(s.Exprs)])
	}
	w.put("END")
}

func (w *writer) cases(s *api.Stat) {
	s.At = w.put("CASE")
	w.expr(&s.Exprs[0], 0)
	w.put("OF")
	for w.chance(5) {
		w.put("|")
	}
	for i := range s.Labels {
		if i > 0 {
			w.put("|")
		}
		w.exprs(s.Labels[i], ",", w.label)
		w.put(":")
		w.block(s.Blocks[i])
		for w.chance(5) {
			w.put("|")
		}
	}
	w.put("END")
}

func (w *writer) loop(s *api.Stat) {
	s.At = w.put("FOR")
	w.put(s.Name)
	w.put(":=")
	w.expr(&s.Exprs[0], 0)
	w.put("TO")
	w.expr(&s.Exprs[1], 0)
	if len(s.Exprs) > 2 {
		w.put("BY")
		w.expr(&s.Exprs[2], 0)
	}
	w.put("DO")
	w.block(s.Blocks[0])
	w.put("END")
}
