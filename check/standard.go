package check

import (
	"spinet/api"
	"spinet/consts"
)

// callStandard comes to nothing where the procedure is a proper one.
func (c *checker) callStandard(name string, e api.Expr) thing {
	switch name {
	case "ABS", "ODD", "ORD", "CHR":
		return c.function(name, e, 1)
	case "LSL", "ASR", "ROR":
		return c.function(name, e, 2)
	case "LEN":
		return c.length(e)
	case "EOT":
		wantCount(e, 0, 0)
		return value{api.FmBool}
	}
	c.proper(name, e)
	return nothing{}
}

func wantCount(e api.Expr, least, most int) {
	if n := len(e.Args) - 1; n < least || n > most {
		fail(api.ErrCount, e.At)
	}
}

// function is one that consts reckons, too.
func (c *checker) function(name string, e api.Expr, count int) thing {
	wantCount(e, count, count)
	var l []api.Value
	for _, a := range e.Args[1:] {
		x := c.value(a)
		if !takes(name, x) {
			fail(api.ErrType, a.At)
		}
		if k, ok := x.(constant); ok {
			l = append(l, k.value)
		}
	}
	if len(l) == count {
		v, err := consts.Call(name, l)
		return reckoned(v, err, e.At)
	}
	return value{answer(name)}
}

func takes(name string, x thing) bool {
	t := x.typ()
	if name != "ORD" {
		return t == api.FmInt
	}
	_, ok := letter(x)
	return ok || t == api.FmChar || t == api.FmBool || t == api.FmSet
}

// answer is the type of what a function comes to.
func answer(name string) int {
	switch name {
	case "ODD":
		return api.FmBool
	case "CHR":
		return api.FmChar
	}
	return api.FmInt
}

func (c *checker) length(e api.Expr) thing {
	wantCount(e, 1, 1)
	v, ok := c.arrayOf(c.expr(e.Args[1]))
	if !ok {
		fail(api.ErrType, e.Args[1].At)
	}
	if a := c.table[v.place]; a.Form == api.FmArray {
		return constant{api.Value{Form: api.FmInt, N: a.Len}}
	}
	return value{api.FmInt}
}

func (c *checker) proper(name string, e api.Expr) {
	params := e.Args[1:]
	switch name {
	case "INC", "DEC":
		wantCount(e, 1, 2)
		c.target(params[0], api.FmInt)
		for _, a := range params[1:] {
			c.intValue(a)
		}
	case "INCL", "EXCL":
		wantCount(e, 2, 2)
		c.target(params[0], api.FmSet)
		c.intValue(params[1])
	case "NEW":
		wantCount(e, 1, 1)
		c.target(params[0], api.FmPointer)
	case "READ":
		wantCount(e, 1, 1)
		c.target(params[0], api.FmChar)
	case "ASSERT":
		wantCount(e, 1, 1)
		if c.value(params[0]).typ() != api.FmBool {
			fail(api.ErrType, params[0].At)
		}
	case "WRITE":
		wantCount(e, 1, 1)
		c.written(params[0])
	}
}

// target is a variable of that form that is written to.
func (c *checker) target(a api.Expr, form int) {
	v := c.variable(a)
	if c.table[v.place].Form != form {
		fail(api.ErrType, a.At)
	}
	if v.readOnly {
		fail(api.ErrVar, a.At)
	}
}

func (c *checker) written(a api.Expr) {
	x := c.value(a)
	if _, ok := letter(x); !ok && x.typ() != api.FmChar {
		fail(api.ErrType, a.At)
	}
}
