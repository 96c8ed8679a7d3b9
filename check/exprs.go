package check

import (
	"spinet/api"
	"spinet/consts"
	"spinet/need"
)

// whole is an expression that stands in no other one.
func (c *checker) whole(e api.Expr) thing {
	x := c.expr(e)
	if _, fixed := x.(constant); !fixed && need.Need(e) > api.MaxRegs {
		fail(api.ErrNeed, e.At)
	}
	return x
}

func (c *checker) wholeValue(e api.Expr) thing {
	x := c.whole(e)
	wantValue(x, e.At)
	return x
}

func (c *checker) wholeInt(e api.Expr) {
	if c.wholeValue(e).typ() != api.FmInt {
		fail(api.ErrType, e.At)
	}
}

func (c *checker) constant(e api.Expr) api.Value {
	return fixed(c.whole(e), e.At)
}

func fixed(x thing, at int) api.Value {
	k, ok := x.(constant)
	if !ok {
		fail(api.ErrConst, at)
	}
	return k.value
}

func (c *checker) value(e api.Expr) thing {
	x := c.expr(e)
	wantValue(x, e.At)
	return x
}

func (c *checker) intValue(e api.Expr) thing {
	x := c.value(e)
	if x.typ() != api.FmInt {
		fail(api.ErrType, e.At)
	}
	return x
}

func (c *checker) variable(e api.Expr) variable {
	return isVariable(c.expr(e), e.At)
}

func isVariable(x thing, at int) variable {
	v, ok := x.(variable)
	if !ok {
		fail(api.ErrVar, at)
	}
	return v
}

func (c *checker) expr(e api.Expr) thing {
	switch e.Kind {
	case api.ExInt:
		return constant{api.Value{Form: api.FmInt, N: e.N}}
	case api.ExChar:
		return constant{api.Value{Form: api.FmChar, N: e.N}}
	case api.ExText:
		return constant{api.Value{Form: api.FmText, Text: e.Text}}
	case api.ExNil:
		return constant{api.Value{Form: api.FmNil}}
	case api.ExBool:
		return constant{api.Value{Form: api.FmBool, N: e.N}}
	case api.ExSet:
		return c.set(e)
	case api.ExUnary:
		return c.unary(e)
	case api.ExBinary:
		return c.binary(e)
	}
	return c.design(e)
}

// reckoned is what consts makes of constants.
func reckoned(v api.Value, err api.Errno, at int) thing {
	if err != api.OK {
		fail(err, at)
	}
	return constant{v}
}

func (c *checker) set(e api.Expr) thing {
	var l [][2]int
	for _, a := range e.Args {
		first, last := ends(a)
		x := c.intValue(first)
		y := x
		if a.Kind == api.ExRange {
			y = c.intValue(last)
		}
		if from, to, ok := bothFixed(x, y); ok {
			l = append(l, [2]int{from.N, to.N})
		}
	}
	if len(l) < len(e.Args) {
		return value{api.FmSet}
	}
	v, err := consts.Set(l)
	return reckoned(v, err, e.At)
}

// ends are a range's, or what stands alone for both.
func ends(e api.Expr) (first, last api.Expr) {
	if e.Kind == api.ExRange {
		return e.Args[0], e.Args[1]
	}
	return e, e
}

func bothFixed(x, y thing) (a, b api.Value, ok bool) {
	k, ok := x.(constant)
	if !ok {
		return api.Value{}, api.Value{}, false
	}
	l, ok := y.(constant)
	if !ok {
		return api.Value{}, api.Value{}, false
	}
	return k.value, l.value, true
}
