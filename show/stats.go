package show

import "spinet/api"

func (w writer) block(l []api.Stat) {
	list(w, ";", l, w.stat)
}

func (w writer) stat(s api.Stat) {
	switch s.Kind {
	case api.StAssign:
		list(w, ":=", s.Exprs, w.expr)
	case api.StCall:
		w.expr(s.Exprs[0])
	case api.StIf:
		w.ifStat(s)
	case api.StCase:
		w.caseStat(s)
	case api.StWhile:
		w.fixed("WHILE")
		w.branches(s, "DO")
		w.fixed("END")
	case api.StRepeat:
		w.fixed("REPEAT")
		w.block(s.Blocks[0])
		w.fixed("UNTIL")
		w.expr(s.Exprs[0])
	case api.StFor:
		w.forStat(s)
	}
}

func (w writer) ifStat(s api.Stat) {
	w.fixed("IF")
	w.branches(s, "THEN")
	// Even with nothing in its block: without the ELSE it would be another tree.
	option(w, "ELSE", s.Blocks[len(s.Exprs):], w.block)
	w.fixed("END")
}

func (w writer) branches(s api.Stat, then string) {
	pairs(w, "ELSIF", s.Exprs, s.Blocks, func(condition api.Expr, block []api.Stat) {
		w.expr(condition)
		w.fixed(then)
		w.block(block)
	})
}

func (w writer) caseStat(s api.Stat) {
	w.fixed("CASE")
	w.expr(s.Exprs[0])
	w.fixed("OF")
	pairs(w, "|", s.Labels, s.Blocks, w.oneCase)
	w.fixed("END")
}

func (w writer) oneCase(labels []api.Expr, block []api.Stat) {
	w.exprs(labels)
	w.fixed(":")
	w.block(block)
}

func (w writer) forStat(s api.Stat) {
	w.fixed("FOR")
	w.name(s.Name)
	w.fixed(":=")
	w.expr(s.Exprs[0])
	w.fixed("TO")
	w.expr(s.Exprs[1])
	option(w, "BY", s.Exprs[2:], w.expr)
	w.fixed("DO")
	w.block(s.Blocks[0])
	w.fixed("END")
}
