package iface

import (
	"slices"

	"spinet/api"
)

// visits are the needed types, in the order in which they are visited.
type visits struct {
	from  []api.Ty
	marks [api.MaxTypes]int // of a needed type its new place and one, of others 0
	order []int
}

func visit(f api.Face) *visits {
	v := &visits{from: f.Types}
	// The first seven are visited ahead of all others, so that they keep their
	// places.
	for a := api.FmNone; a <= api.FmText; a++ {
		v.need(a)
	}
	for _, o := range f.Objs {
		v.need(o.Type)
	}
	return v
}

// need goes into a type at its first visit alone, so that types that lead to
// themselves come to an end.
func (v *visits) need(a int) {
	if v.marks[a] != 0 {
		return
	}
	v.order = append(v.order, a)
	v.marks[a] = len(v.order)
	x := v.from[a]
	v.need(x.Elem)
	v.need(x.Base)
	for _, f := range x.Fields {
		v.need(f.Type)
	}
	for _, p := range x.Params {
		v.need(p.Type)
	}
	v.need(x.Result)
}

func (v *visits) place(a int) int {
	return v.marks[a] - 1
}

// table is the needed types, the records of mod numbered anew; false, if these
// are too many.
func (v *visits) table(mod string) ([]api.Ty, bool) {
	var l []api.Ty
	desc := 0
	for _, a := range v.order {
		x := v.turned(v.from[a])
		if own(x, mod) {
			x.Desc = desc
			desc++
		}
		l = append(l, x)
	}
	return l, desc <= api.MaxDesc
}

func (v *visits) turned(x api.Ty) api.Ty {
	x.Elem, x.Base, x.Result = v.place(x.Elem), v.place(x.Base), v.place(x.Result)
	x.Fields, x.Params = slices.Clone(x.Fields), slices.Clone(x.Params)
	for i := range x.Fields {
		x.Fields[i].Type = v.place(x.Fields[i].Type)
	}
	for i := range x.Params {
		x.Params[i].Type = v.place(x.Params[i].Type)
	}
	return x
}

func (v *visits) objs(l []api.Obj) []api.Obj {
	l = slices.Clone(l)
	for i := range l {
		l[i].Type = v.place(l[i].Type)
	}
	return l
}
