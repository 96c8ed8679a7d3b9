package tree

import (
	"slices"

	"spinet/api"
)

func (p *parser) module() api.Module {
	m := api.Module{At: p.need(key("MODULE")).At}
	m.Name = p.need(aName).Text
	p.need(sign(";"))
	if p.take(key("IMPORT")) {
		m.Imports = list(p, sign(","), p.imported)
		p.need(sign(";"))
	}
	m.Consts = p.constDecls()
	m.Types = p.typeDecls()
	m.Vars = p.varDecls()
	m.Procs = run(p, key("PROCEDURE"), p.procDecl)
	m.Body = p.body()
	p.endOf(m.Name)
	p.need(sign("."))
	if p.next() != (word{}) {
		p.refuse()
	}
	return m
}

func (p *parser) imported() api.Import {
	alias := p.need(aName)
	name := alias
	if p.take(sign(":=")) {
		name = p.need(aName)
	}
	return api.Import{Alias: alias.Text, Name: name.Text, At: alias.At}
}

// endOf reads the END of the module, of a procedure, which names it again.
func (p *parser) endOf(name string) {
	p.need(key("END"))
	if p.next() == aName && p.tokens[p.done].Text != name {
		p.refuse()
	}
	p.need(aName)
}

func (p *parser) constDecls() []api.Const {
	if !p.take(key("CONST")) {
		return nil
	}
	return run(p, aName, p.constDecl)
}

func (p *parser) typeDecls() []api.Type {
	if !p.take(key("TYPE")) {
		return nil
	}
	return run(p, aName, p.typeDecl)
}

func (p *parser) varDecls() []api.Var {
	if !p.take(key("VAR")) {
		return nil
	}
	return slices.Concat(run(p, aName, p.varDecl)...)
}

func (p *parser) constDecl() api.Const {
	d := p.def()
	p.need(sign("="))
	value := p.expr()
	p.need(sign(";"))
	return api.Const{Name: d.Name, Export: d.Export, Value: value, At: d.At}
}

func (p *parser) typeDecl() api.Type {
	d := p.def()
	p.need(sign("="))
	d.Type = p.typeExpr()
	p.need(sign(";"))
	return api.Type(d)
}

func (p *parser) varDecl() []api.Var {
	var l []api.Var
	for _, d := range p.typed(p.def) {
		l = append(l, api.Var(d))
	}
	p.need(sign(";"))
	return l
}

// def reads a name that is declared: a Field, whose Type is still to come.
func (p *parser) def() api.Field {
	if p.inProc {
		return p.plain()
	}
	return p.starred()
}

func (p *parser) plain() api.Field {
	t := p.need(aName)
	return api.Field{Name: t.Text, At: t.At}
}

func (p *parser) starred() api.Field {
	d := p.plain()
	d.Export = p.take(sign("*"))
	return d
}

// typed reads names and the type that all of them get. They share its memory
// till ownModule gives each its own.
func (p *parser) typed(def func() api.Field) []api.Field {
	l := list(p, sign(","), def)
	p.need(sign(":"))
	t := p.typeExpr()
	for i := range l {
		l[i].Type = t
	}
	return l
}

func (p *parser) procDecl() api.Proc {
	x := api.Proc{At: p.need(key("PROCEDURE")).At}
	d := p.def()
	x.Name, x.Export = d.Name, d.Export
	x.Params, x.Result = p.formals()
	p.need(sign(";"))
	p.inProc = true
	x.Consts = p.constDecls()
	x.Types = p.typeDecls()
	x.Vars = p.varDecls()
	p.inProc = false
	x.Body = p.body()
	if p.take(key("RETURN")) {
		x.Return = []api.Expr{p.expr()}
	}
	p.endOf(x.Name)
	p.need(sign(";"))
	return x
}

func (p *parser) body() []api.Stat {
	if !p.take(key("BEGIN")) {
		return nil
	}
	return p.block()
}

// formals reads parameters and a result, or none of both.
func (p *parser) formals() ([]api.Param, []api.Texpr) {
	if !p.take(sign("(")) {
		return nil, nil
	}
	params := slices.Concat(listTo(p, sign(";"), sign(")"), p.section)...)
	if !p.take(sign(":")) {
		return params, nil
	}
	return params, []api.Texpr{p.qual()}
}

func (p *parser) section() []api.Param {
	byVar := p.take(key("VAR"))
	names := list(p, sign(","), p.plain)
	p.need(sign(":"))
	t := p.paramType()
	var l []api.Param
	for _, d := range names {
		l = append(l, api.Param{Name: d.Name, Var: byVar, Type: t, At: d.At})
	}
	return l
}

func (p *parser) paramType() api.Texpr {
	if p.next() != key("ARRAY") {
		return p.qual()
	}
	at := p.pass().At
	p.need(key("OF"))
	return api.Texpr{Kind: api.TxOpen, Elem: []api.Texpr{p.paramType()}, At: at}
}
