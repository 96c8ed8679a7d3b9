package show

import "spinet/api"

func (w writer) module(m api.Module) {
	w.fixed("MODULE")
	w.name(m.Name)
	w.fixed(";")
	w.imports(m.Imports)
	w.decls(m.Consts, m.Types, m.Vars)
	ended(w, m.Procs, w.proc)
	w.body(m.Body)
	w.fixed("END")
	w.name(m.Name)
	w.fixed(".")
}

func (w writer) imports(l []api.Import) {
	if len(l) > 0 {
		w.fixed("IMPORT")
		list(w, ",", l, w.imported)
		w.fixed(";")
	}
}

func (w writer) imported(x api.Import) {
	w.name(x.Alias)
	if x.Alias != x.Name {
		w.fixed(":=")
		w.name(x.Name)
	}
}

func (w writer) decls(consts []api.Const, types []api.Type, vars []api.Var) {
	section(w, "CONST", consts, w.constDecl)
	section(w, "TYPE", types, w.typeDecl)
	section(w, "VAR", vars, w.varDecl)
}

func (w writer) constDecl(x api.Const) {
	w.def(x.Name, x.Export)
	w.fixed("=")
	w.expr(x.Value)
}

func (w writer) typeDecl(x api.Type) {
	w.def(x.Name, x.Export)
	w.fixed("=")
	w.texpr(x.Type)
}

func (w writer) varDecl(x api.Var) {
	w.field(api.Field(x))
}

func (w writer) field(x api.Field) {
	w.def(x.Name, x.Export)
	w.fixed(":")
	w.texpr(x.Type)
}

func (w writer) proc(x api.Proc) {
	w.fixed("PROCEDURE")
	w.def(x.Name, x.Export)
	w.formals(x.Params, x.Result)
	w.fixed(";")
	w.decls(x.Consts, x.Types, x.Vars)
	w.body(x.Body)
	option(w, "RETURN", x.Return, w.expr)
	w.fixed("END")
	w.name(x.Name)
}

// formals has its brackets even if nothing stands in them.
func (w writer) formals(params []api.Param, result []api.Texpr) {
	w.fixed("(")
	list(w, ";", params, w.param)
	w.fixed(")")
	option(w, ":", result, w.texpr)
}

func (w writer) param(x api.Param) {
	if x.Var {
		w.fixed("VAR")
	}
	w.name(x.Name)
	w.fixed(":")
	w.texpr(x.Type)
}

func (w writer) body(l []api.Stat) {
	if len(l) > 0 {
		w.fixed("BEGIN")
		w.block(l)
	}
}
