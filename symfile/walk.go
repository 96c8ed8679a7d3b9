package symfile

import "spinet/api"

const mark = "SPSY"

// file goes through an interface's file; of the types, f has those behind the
// first seven.
func (w way) file(f *api.Face) {
	m := mark
	w.text(&m)
	w.text(&f.Name)
	w.word(&f.Key)
	list(w, &f.Uses, func(u *api.Used) {
		w.text(&u.Name)
		w.word(&u.Key)
	})
	list(w, &f.Types, w.typ)
	list(w, &f.Objs, w.obj)
}

// list makes an entry where there is none yet: on the way of writing all are
// there. A length that was read may be any, so that the file's end ends it, too.
func list[T any](w way, l *[]T, entry func(*T)) {
	n := len(*l)
	w.num(&n)
	for i := 0; i < n && !w.over(); i++ {
		if i == len(*l) {
			var fresh T
			*l = append(*l, fresh)
		}
		entry(&(*l)[i])
	}
}

func (w way) typ(x *api.Ty) {
	w.byte(&x.Form)
	w.text(&x.Mod)
	w.text(&x.Name)
	w.num(&x.Len)
	w.num(&x.Elem)
	w.num(&x.Base)
	w.num(&x.Result)
	w.num(&x.Desc)
	list(w, &x.Fields, func(e *api.TyField) {
		w.text(&e.Name)
		w.flag(&e.Export)
		w.num(&e.Type)
	})
	list(w, &x.Params, func(e *api.TyParam) {
		w.flag(&e.Var)
		w.num(&e.Type)
	})
}

func (w way) obj(o *api.Obj) {
	w.byte(&o.Class)
	w.text(&o.Name)
	w.num(&o.Type)
	w.value(&o.Value)
	w.num(&o.N)
}

func (w way) value(v *api.Value) {
	w.byte(&v.Form)
	if v.Form == api.FmSet {
		w.bits(&v.N)
	} else {
		w.num(&v.N)
	}
	w.text(&v.Text)
}
