package check

import (
	"spinet/api"
	"spinet/iface"
	"spinet/types"
)

func (c *checker) design(e api.Expr) thing {
	switch e.Kind {
	case api.ExName:
		return c.nameOf(e)
	case api.ExDot:
		return c.dot(e)
	case api.ExIndex:
		return c.index(e)
	case api.ExDeref:
		return c.deref(e)
	}
	return c.call(e)
}

func (c *checker) nameOf(e api.Expr) thing {
	x, ok := c.find(e.Text)
	if !ok {
		fail(api.ErrName, e.At)
	}
	return x
}

func (c *checker) dot(e api.Expr) thing {
	x := c.expr(e.Args[0])
	if m, ok := x.(module); ok {
		return c.exported(m, e)
	}
	record, readOnly := c.recordOf(x, e.At)
	f, mod, ok := c.field(c.table[record], e.Text)
	if !ok || mod != c.name && !f.Export {
		fail(api.ErrName, e.At)
	}
	return variable{place: f.Type, readOnly: readOnly}
}

// recordOf is the record whose fields are asked for. What a pointer leads to may
// be written to.
func (c *checker) recordOf(x thing, at int) (place int, readOnly bool) {
	if t := c.table[x.typ()]; t.Form == api.FmPointer {
		return t.Elem, false
	}
	v, ok := x.(variable)
	if !ok || c.table[v.place].Form != api.FmRecord {
		fail(api.ErrType, at)
	}
	return v.place, v.readOnly
}

func (c *checker) exported(m module, e api.Expr) thing {
	o, ok := iface.Find(m.face, e.Text)
	if !ok {
		fail(api.ErrName, e.At)
	}
	if o.Class == api.ClConst {
		return constant{o.Value}
	}
	place := c.bring(m.face, o.Type, e.At)
	switch o.Class {
	case api.ClType:
		return named{place: place, done: true}
	case api.ClVar:
		return variable{place: place, readOnly: true}
	}
	return procedure{place}
}

func (c *checker) index(e api.Expr) thing {
	v, ok := c.arrayOf(c.expr(e.Args[0]))
	if !ok {
		fail(api.ErrType, e.Args[0].At)
	}
	x := c.intValue(e.Args[1])
	a := c.table[v.place]
	if k, ok := x.(constant); ok && (k.value.N < 0 || a.Form == api.FmArray && k.value.N >= a.Len) {
		fail(api.ErrConst, e.Args[1].At)
	}
	return variable{place: a.Elem, readOnly: v.readOnly}
}

func (c *checker) arrayOf(x thing) (variable, bool) {
	v, ok := x.(variable)
	if !ok {
		return variable{}, false
	}
	form := c.table[v.place].Form
	return v, form == api.FmArray || form == api.FmOpen
}

func (c *checker) deref(e api.Expr) thing {
	t := c.table[c.expr(e.Args[0]).typ()]
	if t.Form != api.FmPointer {
		fail(api.ErrType, e.Args[0].At)
	}
	return variable{place: t.Elem}
}

func (c *checker) call(e api.Expr) thing {
	x := c.expr(e.Args[0])
	if s, ok := x.(standard); ok {
		return c.callStandard(s.name, e)
	}
	if len(e.Args) == 2 {
		if v, ok := c.guarded(x); ok {
			if place, ok := c.typeOf(e.Args[1]); ok {
				return c.guard(v, place, e.At)
			}
		}
	}
	return c.callProc(x, e)
}

// guarded tells whether it is such a variable as may be asked for the type of
// what it leads to or stands for.
func (c *checker) guarded(x thing) (variable, bool) {
	v, ok := x.(variable)
	if !ok {
		return variable{}, false
	}
	form := c.table[v.place].Form
	return v, form == api.FmPointer || form == api.FmRecord && v.passed
}

// typeOf finds the type that an expression stands for, if it does.
func (c *checker) typeOf(e api.Expr) (int, bool) {
	switch e.Kind {
	case api.ExName:
		t, ok := c.findType(e.Text)
		return t.place, ok && t.done
	case api.ExDot:
		m, ok := c.findModule(e.Args[0].Text)
		if !ok || e.Args[0].Kind != api.ExName {
			return 0, false
		}
		o, _ := iface.Find(m.face, e.Text)
		if o.Class != api.ClType {
			return 0, false
		}
		return c.bring(m.face, o.Type, e.At), true
	}
	return 0, false
}

func (c *checker) guard(v variable, place, at int) thing {
	if !types.Extends(c.table, place, v.place) {
		fail(api.ErrType, at)
	}
	v.place = place
	return v
}

func (c *checker) callProc(x thing, e api.Expr) thing {
	p := c.table[x.typ()]
	if p.Form != api.FmProc {
		fail(api.ErrType, e.Args[0].At)
	}
	params := e.Args[1:]
	if len(params) != len(p.Params) {
		fail(api.ErrCount, e.At)
	}
	for i, a := range params {
		c.handOver(a, p.Params[i])
	}
	if p.Result == api.FmNone {
		return nothing{}
	}
	return value{p.Result}
}

func (c *checker) handOver(a api.Expr, p api.TyParam) {
	var x thing
	if p.Var {
		x = c.variable(a)
	} else {
		x = c.value(a)
	}
	if !types.Fits(c.table, x.typ(), p) {
		fail(api.ErrType, a.At)
	}
	if v, ok := x.(variable); ok && p.Var && v.readOnly {
		fail(api.ErrVar, a.At)
	}
}
