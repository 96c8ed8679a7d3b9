package tree

import "spinet/api"

// How tight operations bind.
const (
	relating = 1 + iota
	adding
	multiplying
)

func opLevels() map[word]int {
	return map[word]int{
		sign("="): relating, sign("#"): relating, sign("<"): relating, sign("<="): relating,
		sign(">"): relating, sign(">="): relating, key("IN"): relating, key("IS"): relating,
		sign("+"): adding, sign("-"): adding, key("OR"): adding,
		sign("*"): multiplying, sign("/"): multiplying, key("DIV"): multiplying,
		key("MOD"): multiplying, sign("&"): multiplying,
	}
}

func factorReaders() map[word]func(*parser) api.Expr {
	return map[word]func(*parser) api.Expr{
		{kind: api.TokInt}:  leaf(api.ExInt),
		{kind: api.TokChar}: leaf(api.ExChar),
		{kind: api.TokText}: leaf(api.ExText),
		key("NIL"):          literal(api.ExNil, 0),
		key("TRUE"):         literal(api.ExBool, 1),
		key("FALSE"):        literal(api.ExBool, 0),
		sign("{"):           (*parser).set,
		aName:               (*parser).design,
		sign("("):           (*parser).bracketed,
		sign("~"):           (*parser).not,
	}
}

func designSteps() map[word]func(*parser, api.Expr) api.Expr {
	return map[word]func(*parser, api.Expr) api.Expr{
		sign("."): (*parser).dot,
		sign("["): (*parser).indexed,
		sign("^"): (*parser).deref,
		sign("("): (*parser).call,
	}
}

func (p *parser) expr() api.Expr {
	x := p.simple()
	if p.levels[p.next()] != relating {
		return x
	}
	op := p.pass().Text
	return binary(op, x, p.simple())
}

func binary(op string, x, y api.Expr) api.Expr {
	return api.Expr{Kind: api.ExBinary, Op: op, Args: []api.Expr{x, y}, At: x.At}
}

// chain goes on behind the first operand, as long as operations of that level
// come: those from the left bind first.
func (p *parser) chain(x api.Expr, level int, operand func() api.Expr) api.Expr {
	for p.levels[p.next()] == level {
		op := p.pass().Text
		x = binary(op, x, operand())
	}
	return x
}

func (p *parser) simple() api.Expr {
	if p.signed() {
		return p.chain(p.unary(p.term), adding, p.term)
	}
	return p.chain(p.term(), adding, p.term)
}

func (p *parser) signed() bool {
	return p.next() == sign("+") || p.next() == sign("-")
}

func (p *parser) unary(operand func() api.Expr) api.Expr {
	op := p.pass()
	return api.Expr{Kind: api.ExUnary, Op: op.Text, Args: []api.Expr{operand()}, At: op.At}
}

func (p *parser) term() api.Expr {
	return p.chain(p.factor(), multiplying, p.factor)
}

func (p *parser) factor() api.Expr {
	read, ok := p.factors[p.next()]
	if !ok {
		p.refuse()
	}
	return read(p)
}

func (p *parser) beginsExpr() bool {
	_, ok := p.factors[p.next()]
	return ok || p.signed()
}

func leaf(kind int) func(*parser) api.Expr {
	return func(p *parser) api.Expr {
		t := p.pass()
		return api.Expr{Kind: kind, N: t.N, Text: t.Text, At: t.At}
	}
}

func literal(kind, n int) func(*parser) api.Expr {
	return func(p *parser) api.Expr {
		return api.Expr{Kind: kind, N: n, At: p.pass().At}
	}
}

func (p *parser) not() api.Expr {
	return p.unary(p.factor)
}

func (p *parser) bracketed() api.Expr {
	p.pass()
	x := p.expr()
	p.need(sign(")"))
	return x
}

func (p *parser) set() api.Expr {
	at := p.pass().At
	return api.Expr{Kind: api.ExSet, Args: listTo(p, sign(","), sign("}"), p.label), At: at}
}

func (p *parser) label() api.Expr {
	// Not the first part's own place: a bracket may stand ahead of that.
	at := p.place()
	x := p.expr()
	if !p.take(sign("..")) {
		return x
	}
	return api.Expr{Kind: api.ExRange, Args: []api.Expr{x, p.expr()}, At: at}
}

func (p *parser) design() api.Expr {
	x := leaf(api.ExName)(p)
	for {
		step, ok := p.steps[p.next()]
		if !ok {
			return x
		}
		x = step(p, x)
	}
}

func (p *parser) dot(x api.Expr) api.Expr {
	p.pass()
	return api.Expr{Kind: api.ExDot, Text: p.need(aName).Text, Args: []api.Expr{x}, At: x.At}
}

func (p *parser) indexed(x api.Expr) api.Expr {
	p.pass()
	for _, index := range list(p, sign(","), p.expr) {
		x = api.Expr{Kind: api.ExIndex, Args: []api.Expr{x, index}, At: x.At}
	}
	p.need(sign("]"))
	return x
}

func (p *parser) deref(x api.Expr) api.Expr {
	p.pass()
	return api.Expr{Kind: api.ExDeref, Args: []api.Expr{x}, At: x.At}
}

func (p *parser) call(x api.Expr) api.Expr {
	p.pass()
	args := append([]api.Expr{x}, listTo(p, sign(","), sign(")"), p.expr)...)
	return api.Expr{Kind: api.ExCall, Args: args, At: x.At}
}
