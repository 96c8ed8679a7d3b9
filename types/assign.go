package types

import "spinet/api"

func (t table) assign(from, to int) bool {
	if !t.variable(to) {
		return false
	}
	return t.same(from, to) || t.extends(from, to) || t.assignOther(from, to)
}

// variable tells whether there are variables of the type that are assigned whole.
func (t table) variable(a int) bool {
	switch t[a].Form {
	case api.FmNone, api.FmNil, api.FmText, api.FmOpen:
		return false
	}
	return true
}

// assignOther is what may be assigned though it is of quite another form.
func (t table) assignOther(from, to int) bool {
	switch t[from].Form {
	case api.FmNil:
		return t[to].Form == api.FmPointer || t[to].Form == api.FmProc
	case api.FmText:
		return t[to].Form == api.FmArray && t[to].Elem == api.FmChar
	case api.FmOpen:
		return t[to].Form == api.FmArray && t.same(t[from].Elem, t[to].Elem)
	}
	return false
}

func (t table) fitsVar(from, to int) bool {
	switch t[from].Form {
	case api.FmNone, api.FmNil, api.FmText:
		return false
	}
	return t.same(from, to) || t.both(api.FmRecord, from, to) && t.extends(from, to) || t.fitsOpen(from, to)
}

func (t table) fitsValue(from, to int) bool {
	switch {
	case t[to].Form == api.FmOpen:
		return t.fitsOpen(from, to) || t[from].Form == api.FmText && t[to].Elem == api.FmChar
	case t[to].Form == api.FmArray && t.unsized(from):
		return false
	}
	return t.assign(from, to)
}

// unsized are the types that are assigned to arrays of any length, but not
// handed over to them.
func (t table) unsized(a int) bool {
	return t[a].Form == api.FmOpen || t[a].Form == api.FmText
}

// fitsOpen goes from element to element as long as they are open; Good tables
// have no array in itself, so that it ends.
func (t table) fitsOpen(from, to int) bool {
	for t[to].Form == api.FmOpen && (t[from].Form == api.FmArray || t[from].Form == api.FmOpen) {
		from, to = t[from].Elem, t[to].Elem
		if t.same(from, to) {
			return true
		}
	}
	return false
}
