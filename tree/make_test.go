package tree

import (
	"math/rand"
	"strings"

	"spinet/api"
)

// maker makes modules that Parse may make, at random; depth is what is left.
type maker struct {
	*rand.Rand
}

func (r maker) name() string {
	l := []string{"a", "b", "x1", "Z", "INTEGER", "end", "Module", "H", "X0", strings.Repeat("n", api.MaxName), "BEGINS"}
	return l[r.Intn(len(l))]
}

func (r maker) many(most int) int {
	if r.Intn(3) == 0 {
		return r.Intn(most + 1)
	}
	return r.Intn(2)
}

func some[T any](n int, one func() T) []T {
	var l []T
	for range n {
		l = append(l, one())
	}
	return l
}

func (r maker) module() api.Module {
	depth := 1 + r.Intn(4)
	m := api.Module{Name: r.name()}
	m.Imports = some(r.many(3), func() api.Import {
		x := api.Import{Alias: r.name(), Name: r.name()}
		if r.Intn(2) == 0 {
			x.Name = x.Alias
		}
		return x
	})
	m.Consts, m.Types, m.Vars = r.decls(depth, true)
	m.Procs = some(r.many(3), func() api.Proc { return r.proc(depth) })
	m.Body = r.block(depth)
	return m
}

func (r maker) decls(depth int, star bool) ([]api.Const, []api.Type, []api.Var) {
	consts := some(r.many(3), func() api.Const {
		return api.Const{Name: r.name(), Export: star && r.Intn(2) == 0, Value: r.expr(depth)}
	})
	types := some(r.many(3), func() api.Type {
		return api.Type{Name: r.name(), Export: star && r.Intn(2) == 0, Type: r.texpr(depth)}
	})
	vars := some(r.many(4), func() api.Var {
		return api.Var{Name: r.name(), Export: star && r.Intn(2) == 0, Type: r.texpr(depth)}
	})
	for i := 1; i < len(vars); i++ {
		if r.Intn(2) == 0 {
			vars[i].Type = cloned(vars[i-1].Type)
		}
	}
	return consts, types, vars
}

func (r maker) proc(depth int) api.Proc {
	x := api.Proc{Name: r.name(), Export: r.Intn(2) == 0, Params: r.params(), Result: some(r.Intn(2), r.qual)}
	x.Consts, x.Types, x.Vars = r.decls(depth, false)
	x.Body = r.block(depth)
	x.Return = some(r.Intn(2), func() api.Expr { return r.expr(depth) })
	return x
}

func (r maker) params() []api.Param {
	l := some(r.many(4), func() api.Param {
		t := r.qual()
		for r.Intn(3) == 0 {
			t = api.Texpr{Kind: api.TxOpen, Elem: []api.Texpr{t}}
		}
		return api.Param{Name: r.name(), Var: r.Intn(2) == 0, Type: t}
	})
	for i := 1; i < len(l); i++ {
		if r.Intn(2) == 0 {
			l[i].Type, l[i].Var = cloned(l[i-1].Type), l[i-1].Var
		}
	}
	return l
}

func (r maker) qual() api.Texpr {
	t := api.Texpr{Kind: api.TxName, Name: r.name()}
	if r.Intn(3) == 0 {
		t.Mod = r.name()
	}
	return t
}

func (r maker) texpr(depth int) api.Texpr {
	if depth <= 0 {
		return r.qual()
	}
	inner := func() api.Texpr { return r.texpr(depth - 1) }
	switch r.Intn(5) {
	case 0:
		return api.Texpr{Kind: api.TxArray, Lens: some(1+r.many(2), func() api.Expr { return r.expr(depth - 1) }), Elem: some(1, inner)}
	case 1:
		return api.Texpr{Kind: api.TxPointer, Elem: some(1, inner)}
	case 2:
		return api.Texpr{Kind: api.TxProc, Params: r.params(), Result: some(r.Intn(2), r.qual)}
	case 3:
		fields := some(r.many(4), func() api.Field {
			return api.Field{Name: r.name(), Export: r.Intn(2) == 0, Type: inner()}
		})
		for i := 1; i < len(fields); i++ {
			if r.Intn(2) == 0 {
				fields[i].Type = cloned(fields[i-1].Type)
			}
		}
		return api.Texpr{Kind: api.TxRecord, Base: some(r.Intn(2), r.qual), Fields: fields}
	}
	return r.qual()
}

func (r maker) number() int {
	edges := []int{0, 1, 9, 10, 255, 1<<31 - 1, -1 << 31, -1}
	if r.Intn(2) == 0 {
		return edges[r.Intn(len(edges))]
	}
	return int(int32(r.Uint32())) >> r.Intn(31)
}

func (r maker) leaf() api.Expr {
	texts := []string{"", "a", "END", " (* ", "\xff\x80~", "'", strings.Repeat("t", api.MaxString)}
	switch r.Intn(8) {
	case 0:
		return api.Expr{Kind: api.ExChar, N: r.Intn(256)}
	case 1:
		return api.Expr{Kind: api.ExText, Text: texts[r.Intn(len(texts))]}
	case 2:
		return api.Expr{Kind: api.ExNil}
	case 3:
		return api.Expr{Kind: api.ExBool, N: r.Intn(2)}
	case 4, 5:
		return api.Expr{Kind: api.ExInt, N: r.number()}
	}
	return api.Expr{Kind: api.ExName, Text: r.name()}
}

func (r maker) label(depth int) api.Expr {
	if r.Intn(2) == 0 {
		return r.expr(depth)
	}
	return api.Expr{Kind: api.ExRange, Args: some(2, func() api.Expr { return r.expr(depth - 1) })}
}

func (r maker) design(depth int) api.Expr {
	if depth <= 0 || r.Intn(3) == 0 {
		return api.Expr{Kind: api.ExName, Text: r.name()}
	}
	x := []api.Expr{r.design(depth - 1)}
	args := func(n int) []api.Expr {
		return append(x, some(n, func() api.Expr { return r.expr(depth - 1) })...)
	}
	switch r.Intn(4) {
	case 0:
		return api.Expr{Kind: api.ExDot, Text: r.name(), Args: x}
	case 1:
		return api.Expr{Kind: api.ExIndex, Args: args(1)}
	case 2:
		return api.Expr{Kind: api.ExDeref, Args: x}
	}
	return api.Expr{Kind: api.ExCall, Args: args(r.many(3))}
}

func (r maker) expr(depth int) api.Expr {
	if depth <= 0 {
		return r.leaf()
	}
	ops := strings.Fields("= # < <= > >= IN IS + - OR * / DIV MOD & + - OR * / DIV MOD & + -")
	inner := func() api.Expr { return r.expr(depth - 1) }
	switch r.Intn(8) {
	case 0:
		return r.leaf()
	case 1:
		return api.Expr{Kind: api.ExSet, Args: some(r.many(3), func() api.Expr { return r.label(depth - 1) })}
	case 2:
		return r.design(depth)
	case 3, 4:
		return api.Expr{Kind: api.ExUnary, Op: []string{"+", "-", "~"}[r.Intn(3)], Args: some(1, inner)}
	}
	return api.Expr{Kind: api.ExBinary, Op: ops[r.Intn(len(ops))], Args: some(2, inner)}
}

func (r maker) block(depth int) []api.Stat {
	if depth <= 0 {
		return nil
	}
	return some(r.many(3), func() api.Stat { return r.stat(depth) })
}

func (r maker) stat(depth int) api.Stat {
	exprs := func(n int) []api.Expr { return some(n, func() api.Expr { return r.expr(depth - 1) }) }
	blocks := func(n int) [][]api.Stat { return some(n, func() []api.Stat { return r.block(depth - 1) }) }
	n := 1 + r.many(2)
	switch kind := 1 + r.Intn(7); kind {
	case api.StIf:
		return api.Stat{Kind: kind, Exprs: exprs(n), Blocks: blocks(n + r.Intn(2))}
	case api.StCase:
		labels := some(n-1, func() []api.Expr {
			return some(1+r.many(2), func() api.Expr { return r.label(depth - 1) })
		})
		return api.Stat{Kind: kind, Exprs: exprs(1), Labels: labels, Blocks: blocks(n - 1)}
	case api.StWhile:
		return api.Stat{Kind: kind, Exprs: exprs(n), Blocks: blocks(n)}
	case api.StRepeat:
		return api.Stat{Kind: kind, Exprs: exprs(1), Blocks: blocks(1)}
	case api.StFor:
		return api.Stat{Kind: kind, Name: r.name(), Exprs: exprs(2 + r.Intn(2)), Blocks: blocks(1)}
	case api.StCall:
		return api.Stat{Kind: kind, Exprs: []api.Expr{r.design(depth)}}
	}
	return api.Stat{Kind: api.StAssign, Exprs: append([]api.Expr{r.design(depth)}, exprs(1)...)}
}
