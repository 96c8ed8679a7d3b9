package tree

import (
	"slices"

	"spinet/api"
	"spinet/token"
)

// shape holds the parts of a module against what Parse makes. Whether names,
// numbers and texts are tokens' is asked at the end, of all of them at once.
type shape struct {
	levels map[word]int
	tokens []api.Token
}

func (f *shape) name(text string) {
	f.tokens = append(f.tokens, api.Token{Kind: api.TokName, Text: text})
}

// spelt tells whether Lex makes all the tokens. How long they are together is
// left aside: they are no source's.
func (f *shape) spelt() bool {
	for some := range slices.Chunk(f.tokens, api.MaxTokens) {
		if _, err := token.Text(some); err == api.ErrArg {
			return false
		}
	}
	return true
}

func all[T any](l []T, good func(T) bool) bool {
	for _, x := range l {
		if !good(x) {
			return false
		}
	}
	return true
}

func (f *shape) module(m api.Module) bool {
	f.name(m.Name)
	return all(m.Imports, f.imported) &&
		f.decls(m.Consts, m.Types, m.Vars) &&
		all(m.Procs, f.proc) &&
		f.block(m.Body)
}

func (f *shape) imported(x api.Import) bool {
	f.name(x.Alias)
	f.name(x.Name)
	return true
}

func (f *shape) decls(consts []api.Const, types []api.Type, vars []api.Var) bool {
	return all(consts, f.constDecl) &&
		all(types, func(x api.Type) bool { return f.field(api.Field(x)) }) &&
		all(vars, func(x api.Var) bool { return f.field(api.Field(x)) })
}

func (f *shape) constDecl(x api.Const) bool {
	f.name(x.Name)
	return f.value(x.Value)
}

func (f *shape) field(x api.Field) bool {
	f.name(x.Name)
	return f.texpr(x.Type)
}

func (f *shape) proc(x api.Proc) bool {
	f.name(x.Name)
	return all(x.Params, f.param) &&
		f.result(x.Result) &&
		hidden(x) &&
		f.decls(x.Consts, x.Types, x.Vars) &&
		f.block(x.Body) &&
		len(x.Return) <= 1 && all(x.Return, f.value)
}

// hidden tells whether nothing within a procedure is exported.
func hidden(x api.Proc) bool {
	return all(x.Consts, func(x api.Const) bool { return !x.Export }) &&
		all(x.Types, func(x api.Type) bool { return !x.Export }) &&
		all(x.Vars, func(x api.Var) bool { return !x.Export })
}

func (f *shape) param(x api.Param) bool {
	f.name(x.Name)
	return f.paramType(x.Type)
}

func (f *shape) paramType(t api.Texpr) bool {
	if t.Kind != api.TxOpen {
		return f.qual(t)
	}
	good := len(t.Elem) == 1 && all(t.Elem, f.paramType)
	t.Elem = nil
	return good && sameTexpr(t, api.Texpr{Kind: api.TxOpen})
}

func (f *shape) result(l []api.Texpr) bool {
	return len(l) <= 1 && all(l, f.qual)
}

func (f *shape) qual(t api.Texpr) bool {
	f.name(t.Name)
	if t.Mod != "" {
		f.name(t.Mod)
	}
	return sameTexpr(t, api.Texpr{Kind: api.TxName, Mod: t.Mod, Name: t.Name})
}

// texpr takes away what a type's kind has: the rest must be nothing. An open
// array is none here: parameters alone have it.
func (f *shape) texpr(t api.Texpr) bool {
	good := false
	switch t.Kind {
	case api.TxName:
		good = f.qual(t)
		t.Mod, t.Name = "", ""
	case api.TxArray:
		good = len(t.Lens) > 0 && all(t.Lens, f.value) && len(t.Elem) == 1 && all(t.Elem, f.texpr)
		t.Lens, t.Elem = nil, nil
	case api.TxRecord:
		good = len(t.Base) <= 1 && all(t.Base, f.qual) && all(t.Fields, f.field)
		t.Base, t.Fields = nil, nil
	case api.TxPointer:
		good = len(t.Elem) == 1 && all(t.Elem, f.texpr)
		t.Elem = nil
	case api.TxProc:
		good = all(t.Params, f.param) && f.result(t.Result)
		t.Params, t.Result = nil, nil
	}
	return good && sameTexpr(t, api.Texpr{Kind: t.Kind})
}

// statParts tells whether a statement of its kind has as many of each part.
func statParts(s api.Stat) bool {
	exprs, blocks := len(s.Exprs), len(s.Blocks)
	switch s.Kind {
	case api.StAssign:
		return exprs == 2 && blocks == 0 && isDesign(s.Exprs[0])
	case api.StCall:
		return exprs == 1 && blocks == 0 && isDesign(s.Exprs[0])
	case api.StIf:
		return exprs > 0 && (blocks == exprs || blocks == exprs+1)
	case api.StCase:
		return exprs == 1 && blocks == len(s.Labels)
	case api.StWhile:
		return exprs > 0 && blocks == exprs
	case api.StRepeat:
		return exprs == 1 && blocks == 1
	case api.StFor:
		return (exprs == 2 || exprs == 3) && blocks == 1
	}
	return false
}

func (f *shape) stat(s api.Stat) bool {
	if s.Kind == api.StFor {
		f.name(s.Name)
	} else if s.Name != "" {
		return false
	}
	if s.Kind != api.StCase && len(s.Labels) > 0 {
		return false
	}
	return statParts(s) && all(s.Exprs, f.value) && all(s.Labels, f.labels) && all(s.Blocks, f.block)
}

func (f *shape) block(l []api.Stat) bool {
	return all(l, f.stat)
}

func (f *shape) labels(l []api.Expr) bool {
	return len(l) > 0 && all(l, f.label)
}
