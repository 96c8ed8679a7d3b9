package show

import "spinet/api"

func (w writer) texpr(t api.Texpr) {
	switch t.Kind {
	case api.TxName:
		w.qual(t)
	case api.TxArray:
		w.fixed("ARRAY")
		w.exprs(t.Lens)
		w.fixed("OF")
		w.texpr(t.Elem[0])
	case api.TxRecord:
		w.fixed("RECORD")
		option(w, "(", t.Base, w.base)
		list(w, ";", t.Fields, w.field)
		w.fixed("END")
	case api.TxPointer:
		w.fixed("POINTER")
		w.fixed("TO")
		w.texpr(t.Elem[0])
	case api.TxProc:
		w.fixed("PROCEDURE")
		w.formals(t.Params, t.Result)
	case api.TxOpen:
		w.fixed("ARRAY")
		w.fixed("OF")
		w.texpr(t.Elem[0])
	}
}

func (w writer) qual(t api.Texpr) {
	if t.Mod != "" {
		w.name(t.Mod)
		w.fixed(".")
	}
	w.name(t.Name)
}

func (w writer) base(t api.Texpr) {
	w.qual(t)
	w.fixed(")")
}
