package tree

import (
	"slices"

	"spinet/api"
)

func sameImport(a, b api.Import) bool {
	a.At, b.At = 0, 0
	return a == b
}

func sameConst(a, b api.Const) bool {
	return a.Name == b.Name && a.Export == b.Export && sameExpr(a.Value, b.Value)
}

func sameType(a, b api.Type) bool {
	return sameField(api.Field(a), api.Field(b))
}

func sameVar(a, b api.Var) bool {
	return sameField(api.Field(a), api.Field(b))
}

func sameField(a, b api.Field) bool {
	return a.Name == b.Name && a.Export == b.Export && sameTexpr(a.Type, b.Type)
}

func sameParam(a, b api.Param) bool {
	return a.Name == b.Name && a.Var == b.Var && sameTexpr(a.Type, b.Type)
}

func sameProc(a, b api.Proc) bool {
	return a.Name == b.Name && a.Export == b.Export &&
		slices.EqualFunc(a.Params, b.Params, sameParam) &&
		slices.EqualFunc(a.Result, b.Result, sameTexpr) &&
		slices.EqualFunc(a.Consts, b.Consts, sameConst) &&
		slices.EqualFunc(a.Types, b.Types, sameType) &&
		slices.EqualFunc(a.Vars, b.Vars, sameVar) &&
		sameBlock(a.Body, b.Body) &&
		sameExprs(a.Return, b.Return)
}

func sameTexpr(a, b api.Texpr) bool {
	return a.Kind == b.Kind && a.Mod == b.Mod && a.Name == b.Name &&
		sameExprs(a.Lens, b.Lens) &&
		slices.EqualFunc(a.Elem, b.Elem, sameTexpr) &&
		slices.EqualFunc(a.Base, b.Base, sameTexpr) &&
		slices.EqualFunc(a.Fields, b.Fields, sameField) &&
		slices.EqualFunc(a.Params, b.Params, sameParam) &&
		slices.EqualFunc(a.Result, b.Result, sameTexpr)
}

func sameExpr(a, b api.Expr) bool {
	return a.Kind == b.Kind && a.N == b.N && a.Text == b.Text && a.Op == b.Op && sameExprs(a.Args, b.Args)
}

func sameExprs(a, b []api.Expr) bool {
	return slices.EqualFunc(a, b, sameExpr)
}

func sameStat(a, b api.Stat) bool {
	return a.Kind == b.Kind && a.Name == b.Name &&
		sameExprs(a.Exprs, b.Exprs) &&
		slices.EqualFunc(a.Labels, b.Labels, sameExprs) &&
		slices.EqualFunc(a.Blocks, b.Blocks, sameBlock)
}

func sameBlock(a, b []api.Stat) bool {
	return slices.EqualFunc(a, b, sameStat)
}
