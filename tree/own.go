package tree

import "spinet/api"

// ownModule gives each type of a module memory of its own.
func ownModule(m api.Module) api.Module {
	m.Types = own(m.Types, ownType)
	m.Vars = own(m.Vars, ownVar)
	m.Procs = own(m.Procs, ownProc)
	return m
}

func own[T any](l []T, one func(T) T) []T {
	var copied []T
	for _, x := range l {
		copied = append(copied, one(x))
	}
	return copied
}

func ownProc(x api.Proc) api.Proc {
	x.Params = own(x.Params, ownParam)
	x.Types = own(x.Types, ownType)
	x.Vars = own(x.Vars, ownVar)
	return x
}

func ownType(x api.Type) api.Type {
	x.Type = ownTexpr(x.Type)
	return x
}

func ownVar(x api.Var) api.Var {
	x.Type = ownTexpr(x.Type)
	return x
}

func ownField(x api.Field) api.Field {
	x.Type = ownTexpr(x.Type)
	return x
}

func ownParam(x api.Param) api.Param {
	x.Type = ownTexpr(x.Type)
	return x
}

func ownTexpr(t api.Texpr) api.Texpr {
	t.Lens = own(t.Lens, ownExpr)
	t.Elem = own(t.Elem, ownTexpr)
	t.Base = own(t.Base, ownTexpr)
	t.Fields = own(t.Fields, ownField)
	t.Params = own(t.Params, ownParam)
	t.Result = own(t.Result, ownTexpr)
	return t
}

func ownExpr(e api.Expr) api.Expr {
	e.Args = own(e.Args, ownExpr)
	return e
}
