package check

import (
	"slices"

	"spinet/api"
	"spinet/layout"
)

const (
	wordBytes = 4
	// What parameters take of a procedure's room.
	paramBytes = 4
	pairBytes  = 8 // with a length, or a descriptor
)

func (c *checker) module(m api.Module) {
	c.universe()
	c.names.Open()
	for _, x := range m.Imports {
		c.imported(x)
	}
	c.names.Open()
	vars := c.decls(m.Consts, m.Types, m.Vars)
	for _, p := range m.Procs {
		c.proc(p)
	}
	c.block(m.Body)
	if bytes, ok := c.room(vars); !ok || bytes > wordBytes*api.MaxData {
		fail(api.ErrSize, m.At)
	}
}

// decls answers the variables' types.
func (c *checker) decls(consts []api.Const, types []api.Type, vars []api.Var) []int {
	for _, x := range consts {
		c.constDecl(x)
	}
	c.listed = true
	for _, x := range types {
		c.typeDecl(x)
	}
	c.listed = false
	c.endWaits()
	var l []int
	for _, x := range vars {
		l = append(l, c.varDecl(x))
	}
	return l
}

func (c *checker) constDecl(x api.Const) {
	v := c.constant(x.Value)
	c.declare(x.Name, x.At, constant{v})
	if x.Export {
		c.show(api.Obj{Class: api.ClConst, Name: x.Name, Type: v.Form, Value: v}, x.At)
	}
}

func (c *checker) typeDecl(x api.Type) {
	n := c.declare(x.Name, x.At, named{})
	place := c.texpr(x.Type)
	if c.names.Depth() == declLevel {
		c.nameType(place, x.Name)
	}
	c.things[n] = named{place: place, done: true}
	if x.Export {
		c.show(api.Obj{Class: api.ClType, Name: x.Name, Type: place}, x.At)
	}
}

// nameType leaves a record of another module that one's.
func (c *checker) nameType(place int, name string) {
	x := &c.table[place]
	switch x.Form {
	case api.FmArray, api.FmRecord, api.FmPointer, api.FmProc:
		if x.Name == "" && (x.Mod == "" || x.Mod == c.name) {
			x.Mod, x.Name = c.name, name
		}
	}
}

func (c *checker) varDecl(x api.Var) int {
	place := c.element(x.Type)
	c.declare(x.Name, x.At, variable{place: place})
	if x.Export {
		c.show(api.Obj{Class: api.ClVar, Name: x.Name, Type: place, N: c.shown[api.ClVar]}, x.At)
	}
	return place
}

// show exports an object.
func (c *checker) show(o api.Obj, at int) {
	if len(c.objs) == api.MaxObjs {
		fail(api.ErrMany, at)
	}
	c.objs = append(c.objs, o)
	c.shown[o.Class]++
}

func (c *checker) proc(p api.Proc) {
	n := c.declare(p.Name, p.At, procedure{})
	c.procs++
	if c.procs == api.MaxEntry {
		fail(api.ErrMany, p.At)
	}
	x := c.heading(p)
	place := c.put(x, p.At)
	c.things[n] = procedure{place}
	if p.Export {
		// Entry 0 is the module's Body.
		c.show(api.Obj{Class: api.ClProc, Name: p.Name, Type: place, N: c.shown[api.ClProc] + 1}, p.At)
	}
	c.names.Open()
	for i, q := range p.Params {
		c.declare(q.Name, q.At, c.param(x.Params[i]))
	}
	vars := c.decls(p.Consts, p.Types, p.Vars)
	if bytes, ok := c.room(vars); !ok || bytes+c.paramRoom(x.Params) > api.MaxBytes {
		fail(api.ErrSize, p.At)
	}
	c.block(p.Body)
	c.returned(p, x.Result)
	c.names.Close()
}

func (c *checker) heading(p api.Proc) api.Ty {
	x := api.Ty{Form: api.FmProc}
	for i, q := range p.Params {
		x.Params = append(x.Params, api.TyParam{Var: q.Var, Type: c.texpr(q.Type)})
		if slices.ContainsFunc(p.Params[:i], func(r api.Param) bool { return r.Name == q.Name }) {
			fail(api.ErrTwice, q.At)
		}
	}
	x.Result = c.resultType(p.Result)
	return x
}

// param is what a parameter's name stands for. What is handed over without Var,
// but is no plain value, is the caller's.
func (c *checker) param(p api.TyParam) variable {
	x := variable{place: p.Type, passed: p.Var}
	switch c.table[p.Type].Form {
	case api.FmArray, api.FmOpen, api.FmRecord:
		x.readOnly = !p.Var
	}
	return x
}

// room is how many bytes variables of these types need; false, if they are more
// than MaxBytes.
func (c *checker) room(vars []int) (int, bool) {
	at, bytes := layout.Vars(c.table, vars)
	return bytes, len(at) == len(vars)
}

func (c *checker) paramRoom(l []api.TyParam) int {
	bytes := 0
	for _, p := range l {
		form := c.table[p.Type].Form
		if form == api.FmOpen || form == api.FmRecord && p.Var {
			bytes += pairBytes
		} else {
			bytes += paramBytes
		}
	}
	return bytes
}

func (c *checker) returned(p api.Proc, result int) {
	if len(p.Return) > 0 != (result != api.FmNone) {
		fail(api.ErrType, p.At)
	}
	for _, e := range p.Return {
		if x := c.wholeValue(e); !c.assignable(x, result) {
			fail(api.ErrType, e.At)
		}
	}
}
