package check

import (
	"slices"

	"spinet/api"
	"spinet/iface"
	"spinet/layout"
	"spinet/types"
)

// put gives a type its place in the table.
func (c *checker) put(x api.Ty, at int) int {
	if len(c.table) == api.MaxTypes {
		fail(api.ErrMany, at)
	}
	c.table = append(c.table, x)
	return len(c.table) - 1
}

func (c *checker) texpr(t api.Texpr) int {
	switch t.Kind {
	case api.TxName:
		return c.typeName(t)
	case api.TxArray:
		return c.array(t)
	case api.TxRecord:
		return c.record(t)
	case api.TxPointer:
		return c.pointer(t)
	case api.TxProc:
		return c.procType(t)
	}
	return c.put(api.Ty{Form: api.FmOpen, Elem: c.texpr(t.Elem[0])}, t.At)
}

// element is a type that variables, fields and elements may have. An open array
// is none: an interface may have one by a name.
func (c *checker) element(t api.Texpr) int {
	place := c.texpr(t)
	if c.table[place].Form == api.FmOpen {
		fail(api.ErrName, t.At)
	}
	return place
}

func (c *checker) typeName(t api.Texpr) int {
	if t.Mod != "" {
		return c.importedType(t)
	}
	x, ok := c.findType(t.Name)
	if !ok || !x.done {
		fail(api.ErrName, t.At)
	}
	return x.place
}

func (c *checker) importedType(t api.Texpr) int {
	m, ok := c.findModule(t.Mod)
	if !ok {
		fail(api.ErrName, t.At)
	}
	o, _ := iface.Find(m.face, t.Name)
	if o.Class != api.ClType {
		fail(api.ErrName, t.At)
	}
	return c.bring(m.face, o.Type, t.At)
}

func (c *checker) array(t api.Texpr) int {
	var lens []int
	for _, e := range t.Lens {
		v := c.constant(e)
		if v.Form != api.FmInt || v.N < 1 || v.N > api.MaxLen {
			fail(api.ErrConst, e.At)
		}
		lens = append(lens, v.N)
	}
	place := c.element(t.Elem[0])
	for _, n := range slices.Backward(lens) {
		place = c.sized(api.Ty{Form: api.FmArray, Len: n, Elem: place}, t.At)
	}
	return place
}

func (c *checker) sized(x api.Ty, at int) int {
	place := c.put(x, at)
	if layout.Size(c.table, place) > api.MaxBytes {
		fail(api.ErrSize, at)
	}
	return place
}

func (c *checker) record(t api.Texpr) int {
	x := api.Ty{Form: api.FmRecord, Mod: c.name, Desc: -1}
	for _, base := range t.Base {
		x.Base = c.base(base)
	}
	for _, f := range t.Fields {
		place := c.element(f.Type)
		if _, _, twice := c.field(x, f.Name); twice {
			fail(api.ErrTwice, f.At)
		}
		x.Fields = append(x.Fields, api.TyField{Name: f.Name, Export: f.Export, Type: place})
	}
	if c.records == api.MaxDesc {
		fail(api.ErrMany, t.At)
	}
	c.records++
	return c.sized(x, t.At)
}

func (c *checker) base(t api.Texpr) int {
	place := c.texpr(t)
	if c.table[place].Form != api.FmRecord {
		fail(api.ErrType, t.At)
	}
	if types.Level(c.table, place) >= api.MaxExt {
		fail(api.ErrSize, t.At)
	}
	return place
}

// field finds a record's field, or one of its bases', and the module of the
// record that it is of.
func (c *checker) field(x api.Ty, name string) (f api.TyField, mod string, ok bool) {
	for x.Form == api.FmRecord {
		for _, f := range x.Fields {
			if f.Name == name {
				return f, x.Mod, true
			}
		}
		x = c.table[x.Base]
	}
	return api.TyField{}, "", false
}

// wait is a pointer whose record may be declared behind it.
type wait struct {
	place int
	elem  api.Texpr
}

// pointer puts in the place of one that waits a procedure, which has no parts
// and is as wide, so that the table is a good one all the time.
func (c *checker) pointer(t api.Texpr) int {
	elem := t.Elem[0]
	if c.mayWait(elem) {
		place := c.put(api.Ty{Form: api.FmProc}, t.At)
		c.waits = append(c.waits, wait{place, elem})
		return place
	}
	record := c.texpr(elem)
	if c.table[record].Form != api.FmRecord {
		fail(api.ErrType, elem.At)
	}
	return c.put(api.Ty{Form: api.FmPointer, Elem: record}, t.At)
}

func (c *checker) mayWait(elem api.Texpr) bool {
	if !c.listed || elem.Kind != api.TxName || elem.Mod != "" {
		return false
	}
	x, ok := c.find(elem.Name)
	if !ok {
		return true
	}
	t, ok := x.(named)
	return ok && !t.done
}

// endWaits is asked behind a list of types: what is found now, but was not
// before, is of that list.
func (c *checker) endWaits() {
	for _, w := range c.waits {
		t, ok := c.findType(w.elem.Name)
		if !ok {
			fail(api.ErrName, w.elem.At)
		}
		if c.table[t.place].Form != api.FmRecord {
			fail(api.ErrType, w.elem.At)
		}
		x := &c.table[w.place]
		x.Form, x.Elem = api.FmPointer, t.place
	}
	c.waits = nil
}

func (c *checker) procType(t api.Texpr) int {
	x := api.Ty{Form: api.FmProc}
	for _, p := range t.Params {
		x.Params = append(x.Params, api.TyParam{Var: p.Var, Type: c.texpr(p.Type)})
	}
	x.Result = c.resultType(t.Result)
	return c.put(x, t.At)
}

// resultType is FmNone where there is no Result.
func (c *checker) resultType(l []api.Texpr) int {
	for _, t := range l {
		place := c.texpr(t)
		switch c.table[place].Form {
		case api.FmArray, api.FmOpen, api.FmRecord:
			fail(api.ErrType, t.At)
		}
		return place
	}
	return api.FmNone
}
