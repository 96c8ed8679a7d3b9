package tree

import (
	"slices"

	"spinet/api"
)

func statReaders() map[word]func(*parser) api.Stat {
	return map[word]func(*parser) api.Stat{
		aName:         (*parser).assignOrCall,
		key("IF"):     (*parser).ifStat,
		key("CASE"):   (*parser).caseStat,
		key("WHILE"):  (*parser).whileStat,
		key("REPEAT"): (*parser).repeatStat,
		key("FOR"):    (*parser).forStat,
	}
}

func (p *parser) block() []api.Stat {
	return slices.Concat(list(p, sign(";"), p.stat)...)
}

// stat reads a statement, or nothing: an empty one.
func (p *parser) stat() []api.Stat {
	read, ok := p.stats[p.next()]
	if !ok {
		return nil
	}
	at := p.place()
	s := read(p)
	s.At = at
	return []api.Stat{s}
}

func (p *parser) assignOrCall() api.Stat {
	to := p.design()
	if !p.take(sign(":=")) {
		return api.Stat{Kind: api.StCall, Exprs: []api.Expr{to}}
	}
	return api.Stat{Kind: api.StAssign, Exprs: []api.Expr{to, p.expr()}}
}

func (p *parser) ifStat() api.Stat {
	s := p.branches(api.StIf, key("THEN"))
	if p.take(key("ELSE")) {
		s.Blocks = append(s.Blocks, p.block())
	}
	p.need(key("END"))
	return s
}

func (p *parser) whileStat() api.Stat {
	s := p.branches(api.StWhile, key("DO"))
	p.need(key("END"))
	return s
}

type branch struct {
	cond  api.Expr
	block []api.Stat
}

func (p *parser) branches(kind int, behind word) api.Stat {
	p.pass()
	s := api.Stat{Kind: kind}
	for _, b := range list(p, key("ELSIF"), func() branch { return p.branch(behind) }) {
		s.Exprs = append(s.Exprs, b.cond)
		s.Blocks = append(s.Blocks, b.block)
	}
	return s
}

func (p *parser) branch(behind word) branch {
	cond := p.expr()
	p.need(behind)
	return branch{cond: cond, block: p.block()}
}

func (p *parser) caseStat() api.Stat {
	p.pass()
	s := api.Stat{Kind: api.StCase, Exprs: []api.Expr{p.expr()}}
	p.need(key("OF"))
	for _, c := range list(p, sign("|"), p.oneCase) {
		if len(c.labels) > 0 {
			s.Labels = append(s.Labels, c.labels)
			s.Blocks = append(s.Blocks, c.block)
		}
	}
	p.need(key("END"))
	return s
}

// labelled is a case; an empty one has no labels.
type labelled struct {
	labels []api.Expr
	block  []api.Stat
}

func (p *parser) oneCase() labelled {
	if !p.beginsExpr() {
		return labelled{}
	}
	labels := list(p, sign(","), p.label)
	p.need(sign(":"))
	return labelled{labels: labels, block: p.block()}
}

func (p *parser) repeatStat() api.Stat {
	p.pass()
	block := p.block()
	p.need(key("UNTIL"))
	return api.Stat{Kind: api.StRepeat, Exprs: []api.Expr{p.expr()}, Blocks: [][]api.Stat{block}}
}

func (p *parser) forStat() api.Stat {
	p.pass()
	s := api.Stat{Kind: api.StFor, Name: p.need(aName).Text}
	p.need(sign(":="))
	s.Exprs = append(s.Exprs, p.expr())
	p.need(key("TO"))
	s.Exprs = append(s.Exprs, p.expr())
	if p.take(key("BY")) {
		s.Exprs = append(s.Exprs, p.expr())
	}
	p.need(key("DO"))
	s.Blocks = [][]api.Stat{p.block()}
	p.need(key("END"))
	return s
}
