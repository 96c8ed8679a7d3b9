package tree

import "spinet/api"

// limits is what a module has too much of.
func limits(m api.Module) api.Errno {
	var c tally
	c.module(m)
	switch {
	case c.nodes > api.MaxNodes || c.long:
		return api.ErrMany
	case c.deepest > api.MaxNest:
		return api.ErrDeep
	}
	return api.OK
}

// tally is how much there is in a module. It stops at the first node that is
// too many: a module may be of any size, and its parts may share memory, so
// that there are far more of them than were ever made.
type tally struct {
	nodes   int
	deepest int
	long    bool // a list has too many entries
}

func (c *tally) node(depth int) {
	c.nodes++
	c.deepest = max(c.deepest, depth)
}

// each goes through a list, whose nodes stand that deep.
func each[T any](c *tally, l []T, depth int, count func(x T, depth int)) {
	c.long = c.long || len(l) > api.MaxList
	for _, x := range l {
		if c.nodes > api.MaxNodes {
			return
		}
		count(x, depth)
	}
}

func (c *tally) module(m api.Module) {
	c.long = c.long || len(m.Imports) > api.MaxList
	c.decls(m.Consts, m.Types, m.Vars)
	each(c, m.Procs, 1, c.proc)
	c.block(m.Body, 1)
}

func (c *tally) decls(consts []api.Const, types []api.Type, vars []api.Var) {
	each(c, consts, 1, func(x api.Const, depth int) { c.expr(x.Value, depth) })
	each(c, types, 1, func(x api.Type, depth int) { c.texpr(x.Type, depth) })
	each(c, vars, 1, func(x api.Var, depth int) { c.texpr(x.Type, depth) })
}

func (c *tally) proc(x api.Proc, depth int) {
	each(c, x.Params, depth, c.param)
	each(c, x.Result, depth, c.texpr)
	c.decls(x.Consts, x.Types, x.Vars)
	c.block(x.Body, depth)
	c.exprs(x.Return, depth)
}

func (c *tally) param(x api.Param, depth int) {
	c.texpr(x.Type, depth)
}

func (c *tally) texpr(t api.Texpr, depth int) {
	c.node(depth)
	c.exprs(t.Lens, depth+1)
	each(c, t.Elem, depth+1, c.texpr)
	each(c, t.Base, depth+1, c.texpr)
	each(c, t.Fields, depth+1, func(x api.Field, depth int) { c.texpr(x.Type, depth) })
	each(c, t.Params, depth+1, c.param)
	each(c, t.Result, depth+1, c.texpr)
}

func (c *tally) expr(e api.Expr, depth int) {
	c.node(depth)
	c.exprs(e.Args, depth+1)
}

func (c *tally) exprs(l []api.Expr, depth int) {
	each(c, l, depth, c.expr)
}

func (c *tally) stat(s api.Stat, depth int) {
	c.node(depth)
	c.exprs(s.Exprs, depth+1)
	each(c, s.Labels, depth+1, c.exprs)
	each(c, s.Blocks, depth+1, c.block)
}

func (c *tally) block(l []api.Stat, depth int) {
	each(c, l, depth, c.stat)
}
