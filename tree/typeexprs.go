package tree

import (
	"slices"

	"spinet/api"
)

func typeReaders() map[word]func(*parser) api.Texpr {
	return map[word]func(*parser) api.Texpr{
		aName:            (*parser).qual,
		key("ARRAY"):     (*parser).array,
		key("RECORD"):    (*parser).record,
		key("POINTER"):   (*parser).pointer,
		key("PROCEDURE"): (*parser).procType,
	}
}

func (p *parser) typeExpr() api.Texpr {
	read, ok := p.types[p.next()]
	if !ok {
		p.refuse()
	}
	return read(p)
}

func (p *parser) qual() api.Texpr {
	first := p.need(aName)
	t := api.Texpr{Kind: api.TxName, Name: first.Text, At: first.At}
	if p.take(sign(".")) {
		t.Mod, t.Name = first.Text, p.need(aName).Text
	}
	return t
}

func (p *parser) array() api.Texpr {
	t := api.Texpr{Kind: api.TxArray, At: p.pass().At}
	t.Lens = list(p, sign(","), p.expr)
	p.need(key("OF"))
	t.Elem = []api.Texpr{p.typeExpr()}
	return t
}

func (p *parser) record() api.Texpr {
	t := api.Texpr{Kind: api.TxRecord, At: p.pass().At}
	if p.take(sign("(")) {
		t.Base = []api.Texpr{p.qual()}
		p.need(sign(")"))
	}
	t.Fields = slices.Concat(list(p, sign(";"), p.fields)...)
	p.need(key("END"))
	return t
}

// fields reads the names of one type, or nothing. A field's * may stand within
// a procedure too: only of what is declared there the grammar rules it out.
func (p *parser) fields() []api.Field {
	if p.next() != aName {
		return nil
	}
	return p.typed(p.starred)
}

func (p *parser) pointer() api.Texpr {
	t := api.Texpr{Kind: api.TxPointer, At: p.pass().At}
	p.need(key("TO"))
	t.Elem = []api.Texpr{p.typeExpr()}
	return t
}

func (p *parser) procType() api.Texpr {
	t := api.Texpr{Kind: api.TxProc, At: p.pass().At}
	t.Params, t.Result = p.formals()
	return t
}
