package check

import (
	"spinet/api"
	"spinet/consts"
	"spinet/types"
)

func (c *checker) unary(e api.Expr) thing {
	x := c.value(e.Args[0])
	t := x.typ()
	if !oneOf(e.Op, t) {
		fail(api.ErrType, e.At)
	}
	if k, ok := x.(constant); ok {
		v, err := consts.One(e.Op, k.value)
		return reckoned(v, err, e.At)
	}
	return value{t}
}

func oneOf(op string, t int) bool {
	switch op {
	case "+":
		return t == api.FmInt
	case "-":
		return t == api.FmInt || t == api.FmSet
	}
	return t == api.FmBool
}

func (c *checker) binary(e api.Expr) thing {
	if e.Op == "IS" {
		return c.is(e)
	}
	x := c.value(e.Args[0])
	y := c.value(e.Args[1])
	x, y = beside(x, y), beside(y, x)
	t := c.twoOf(e.Op, x, y)
	if t == api.FmNone {
		fail(api.ErrType, e.At)
	}
	if a, b, ok := bothFixed(x, y); ok {
		v, err := consts.Two(e.Op, a, b)
		return reckoned(v, err, e.At)
	}
	return value{t}
}

// beside is x as it counts where the other one is that.
func beside(x, other thing) thing {
	if v, ok := letter(x); ok && other.typ() == api.FmChar {
		return constant{v}
	}
	return x
}

// twoOf is the type of what an operation comes to; FmNone, if there is none for
// such two.
func (c *checker) twoOf(op string, x, y thing) int {
	a, b := x.typ(), y.typ()
	switch op {
	case "DIV", "MOD":
		return same(a, b, api.FmInt)
	case "*", "+", "-":
		return max(same(a, b, api.FmInt), same(a, b, api.FmSet))
	case "/":
		return same(a, b, api.FmSet)
	case "&", "OR":
		return same(a, b, api.FmBool)
	case "IN":
		return truth(a == api.FmInt && b == api.FmSet)
	case "=", "#":
		return truth(c.ordered(a, b) || c.equal(a, b))
	}
	return truth(c.ordered(a, b))
}

// same is t, if both are.
func same(a, b, t int) int {
	if a == t && b == t {
		return t
	}
	return api.FmNone
}

func truth(ok bool) int {
	if ok {
		return api.FmBool
	}
	return api.FmNone
}

// ordered tells whether values of these types may be less than each other.
func (c *checker) ordered(a, b int) bool {
	return a == b && (a == api.FmInt || a == api.FmChar) || c.text(a) && c.text(b)
}

func (c *checker) text(a int) bool {
	x := c.table[a]
	return x.Form == api.FmText || (x.Form == api.FmArray || x.Form == api.FmOpen) && x.Elem == api.FmChar
}

// equal tells whether values of these types, which have no order, may be equal.
func (c *checker) equal(a, b int) bool {
	if a == api.FmNil || b == api.FmNil {
		return c.mayBeNil(a) && c.mayBeNil(b)
	}
	switch c.table[a].Form {
	case api.FmBool, api.FmSet:
		return a == b
	case api.FmPointer:
		return types.Extends(c.table, a, b) || types.Extends(c.table, b, a)
	case api.FmProc:
		return types.Same(c.table, a, b)
	}
	return false
}

func (c *checker) mayBeNil(a int) bool {
	switch c.table[a].Form {
	case api.FmNil, api.FmPointer, api.FmProc:
		return true
	}
	return false
}

// is asks no more of its second part than whether it stands for such a type.
func (c *checker) is(e api.Expr) thing {
	v, ok := c.guarded(c.expr(e.Args[0]))
	if !ok {
		fail(api.ErrType, e.At)
	}
	place, ok := c.typeOf(e.Args[1])
	if !ok {
		fail(api.ErrType, e.At)
	}
	c.guard(v, place, e.At)
	return value{api.FmBool}
}
