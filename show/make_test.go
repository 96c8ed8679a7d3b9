package show

import (
	"math/rand"
	"strings"

	"spinet/api"
)

// maker makes modules that Parse may make, at random; depth is what is left.
type maker struct {
	*rand.Rand
}

func (r maker) name() string {
	l := []string{"a", "b", "x1", "Z", "INTEGER", "end", "Module", "H", "X0", times(api.MaxName, "n"), "BEGINS"}
	return l[r.Intn(len(l))]
}

func (r maker) coin() bool {
	return r.Intn(2) == 0
}

// many is mostly none or one, at times more.
func (r maker) many(most int) int {
	if r.Intn(3) == 0 {
		return r.Intn(most + 1)
	}
	return r.Intn(2)
}

func (r maker) module() api.Module {
	depth := 1 + r.Intn(4)
	m := api.Module{Name: r.name(), At: r.Intn(9)}
	m.Imports = some(r.many(4), func() api.Import {
		x := api.Import{Alias: r.name(), Name: r.name()}
		if r.coin() {
			x.Name = x.Alias
		}
		return x
	})
	m.Consts, m.Types, m.Vars = r.decls(depth, true)
	m.Procs = some(r.many(3), func() api.Proc { return r.proc(depth) })
	m.Body = r.block(depth)
	return m
}

func (r maker) decls(depth int, star bool) ([]api.Const, []api.Type, []api.Var) {
	consts := some(r.many(3), func() api.Const {
		return api.Const{Name: r.name(), Export: star && r.coin(), Value: r.expr(depth)}
	})
	types := some(r.many(3), func() api.Type {
		return api.Type{Name: r.name(), Export: star && r.coin(), Type: r.texpr(depth)}
	})
	vars := some(r.many(3), func() api.Var {
		return api.Var{Name: r.name(), Export: star && r.coin(), Type: r.texpr(depth), At: r.Intn(9)}
	})
	return consts, types, vars
}

func (r maker) proc(depth int) api.Proc {
	x := api.Proc{Name: r.name(), Export: r.coin(), Params: r.params(), Result: some(r.Intn(2), r.qual)}
	x.Consts, x.Types, x.Vars = r.decls(depth, false)
	x.Body = r.block(depth)
	x.Return = some(r.Intn(2), func() api.Expr { return r.expr(depth) })
	return x
}

func (r maker) params() []api.Param {
	return some(r.many(4), func() api.Param {
		t := r.qual()
		for r.Intn(3) == 0 {
			t = api.Texpr{Kind: api.TxOpen, Elem: []api.Texpr{t}}
		}
		return api.Param{Name: r.name(), Var: r.coin(), Type: t}
	})
}

func (r maker) qual() api.Texpr {
	t := aType(r.name())
	if r.Intn(3) == 0 {
		t.Mod = r.name()
	}
	return t
}

func (r maker) texpr(depth int) api.Texpr {
	inner := func() api.Texpr { return r.texpr(depth - 1) }
	kind := 1 + r.Intn(5)
	if depth <= 0 {
		kind = api.TxName
	}
	switch kind {
	case api.TxArray:
		return api.Texpr{Kind: kind, Lens: some(1+r.many(2), func() api.Expr { return r.expr(depth - 1) }), Elem: some(1, inner)}
	case api.TxPointer:
		return api.Texpr{Kind: kind, Elem: some(1, inner)}
	case api.TxProc:
		return api.Texpr{Kind: kind, Params: r.params(), Result: some(r.Intn(2), r.qual)}
	case api.TxRecord:
		fields := some(r.many(3), func() api.Field {
			return api.Field{Name: r.name(), Export: r.coin(), Type: inner()}
		})
		return api.Texpr{Kind: kind, Base: some(r.Intn(2), r.qual), Fields: fields}
	}
	return r.qual()
}

func (r maker) leaf() api.Expr {
	texts := []string{"", "a", "END", " (* ", "\xff\x80~", "'", times(api.MaxString, "t")}
	edges := []int{0, 9, 10, 1<<31 - 1, -1 << 31, -1}
	switch r.Intn(8) {
	case 0:
		return aChar(r.Intn(256))
	case 1:
		return aText(texts[r.Intn(len(texts))])
	case 2:
		return with(api.ExNil)
	case 3:
		return api.Expr{Kind: api.ExBool, N: r.Intn(2)}
	case 4:
		return anInt(edges[r.Intn(len(edges))])
	case 5:
		return anInt(int(int32(r.Uint32())) >> r.Intn(31))
	}
	return aName(r.name())
}

func (r maker) label(depth int) api.Expr {
	if r.coin() {
		return r.expr(depth)
	}
	return with(api.ExRange, r.expr(depth-1), r.expr(depth-1))
}

func (r maker) design(depth int) api.Expr {
	if depth <= 0 || r.Intn(3) == 0 {
		return aName(r.name())
	}
	first := r.design(depth - 1)
	switch r.Intn(4) {
	case 0:
		x := with(api.ExDot, first)
		x.Text = r.name()
		return x
	case 1:
		return with(api.ExIndex, first, r.expr(depth-1))
	case 2:
		return with(api.ExDeref, first)
	}
	args := some(r.many(3), func() api.Expr { return r.expr(depth - 1) })
	return with(api.ExCall, append([]api.Expr{first}, args...)...)
}

func (r maker) expr(depth int) api.Expr {
	if depth <= 0 {
		return r.leaf()
	}
	switch r.Intn(8) {
	case 0:
		return r.leaf()
	case 1:
		return with(api.ExSet, some(r.many(3), func() api.Expr { return r.label(depth - 1) })...)
	case 2:
		return r.design(depth)
	case 3, 4:
		return unary([]string{"+", "-", "~"}[r.Intn(3)], r.expr(depth-1))
	}
	ops := strings.Fields(operations)
	return binary(ops[r.Intn(len(ops))], r.expr(depth-1), r.expr(depth-1))
}

func (r maker) block(depth int) []api.Stat {
	if depth <= 0 {
		return nil
	}
	return some(r.many(3), func() api.Stat { return r.stat(depth) })
}

func (r maker) stat(depth int) api.Stat {
	exprs := func(n int) []api.Expr { return some(n, func() api.Expr { return r.expr(depth - 1) }) }
	blocks := func(n int) [][]api.Stat { return some(n, func() []api.Stat { return r.block(depth - 1) }) }
	n := 1 + r.many(2)
	switch kind := 1 + r.Intn(7); kind {
	case api.StIf:
		return api.Stat{Kind: kind, Exprs: exprs(n), Blocks: blocks(n + r.Intn(2))}
	case api.StCase:
		labels := some(n-1, func() []api.Expr {
			return some(1+r.many(2), func() api.Expr { return r.label(depth - 1) })
		})
		return api.Stat{Kind: kind, Exprs: exprs(1), Labels: labels, Blocks: blocks(n - 1)}
	case api.StWhile:
		return api.Stat{Kind: kind, Exprs: exprs(n), Blocks: blocks(n)}
	case api.StRepeat:
		return api.Stat{Kind: kind, Exprs: exprs(1), Blocks: blocks(1)}
	case api.StFor:
		return api.Stat{Kind: kind, Name: r.name(), Exprs: exprs(2 + r.Intn(2)), Blocks: blocks(1)}
	case api.StCall:
		return call(r.design(depth))
	}
	return assign(r.design(depth), r.expr(depth-1))
}
