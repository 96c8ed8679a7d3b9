package types

import "spinet/api"

func Good(t []api.Ty) bool {
	if len(t) < basics || len(t) > api.MaxTypes {
		return false
	}
	for a, x := range t[:basics] {
		if x.Form != a || x.Mod != "" || x.Name != "" || !bare(x) {
			return false
		}
	}
	for _, x := range t[basics:] {
		if !goodNames(x) || !goodParts(t, x) {
			return false
		}
	}
	return noneInItself(t) && goodRecords(t)
}

// bare tells whether a type has no part at all.
func bare(x api.Ty) bool {
	return x.Len == 0 && x.Elem == 0 && x.Base == 0 && len(x.Fields) == 0 && len(x.Params) == 0 && x.Result == 0 && x.Desc == 0
}

func goodNames(x api.Ty) bool {
	if x.Name == "" {
		return x.Form == api.FmRecord && isName(x.Mod) || x.Form != api.FmRecord && x.Mod == ""
	}
	return isName(x.Mod) && isName(x.Name)
}

func isName(s string) bool {
	if s == "" || len(s) > api.MaxName || !letter(s[0]) {
		return false
	}
	for i := range len(s) {
		if !letter(s[i]) && !digit(s[i]) {
			return false
		}
	}
	return true
}

func letter(c byte) bool {
	return 'a' <= c && c <= 'z' || 'A' <= c && c <= 'Z'
}

func digit(c byte) bool {
	return '0' <= c && c <= '9'
}

// goodParts looks at the parts that the type's form has and takes them away:
// nothing may be left then.
func goodParts(t []api.Ty, x api.Ty) bool {
	ok := false
	switch x.Form {
	case api.FmArray:
		ok = x.Len >= 1 && x.Len <= api.MaxLen && element(t, x.Elem)
		x.Len, x.Elem = 0, 0
	case api.FmOpen:
		ok = openElement(t, x.Elem)
		x.Elem = 0
	case api.FmRecord:
		ok = goodBase(t, x.Base) && goodFields(t, x.Fields) && x.Desc >= -1 && x.Desc < api.MaxDesc
		x.Base, x.Fields, x.Desc = 0, nil, 0
	case api.FmPointer:
		ok = formAt(t, x.Elem) == api.FmRecord
		x.Elem = 0
	case api.FmProc:
		ok = goodParams(t, x.Params) && goodResult(t, x.Result)
		x.Params, x.Result = nil, 0
	}
	return ok && bare(x)
}

// outside is the form of what is no place of a table.
const outside = -1

func formAt(t []api.Ty, a int) int {
	if !within(t, a) {
		return outside
	}
	return t[a].Form
}

func plain(t []api.Ty, a int) bool {
	switch formAt(t, a) {
	case api.FmInt, api.FmBool, api.FmChar, api.FmSet, api.FmPointer, api.FmProc:
		return true
	}
	return false
}

func element(t []api.Ty, a int) bool {
	form := formAt(t, a)
	return form == api.FmArray || form == api.FmRecord || plain(t, a)
}

func openElement(t []api.Ty, a int) bool {
	return formAt(t, a) == api.FmOpen || element(t, a)
}

func goodBase(t []api.Ty, a int) bool {
	return a == 0 || formAt(t, a) == api.FmRecord
}

func goodFields(t []api.Ty, l []api.TyField) bool {
	if len(l) > api.MaxList {
		return false
	}
	for _, f := range l {
		if !isName(f.Name) || !element(t, f.Type) {
			return false
		}
	}
	return true
}

func goodParams(t []api.Ty, l []api.TyParam) bool {
	if len(l) > api.MaxList {
		return false
	}
	for _, p := range l {
		if !openElement(t, p.Type) {
			return false
		}
	}
	return true
}

func goodResult(t []api.Ty, a int) bool {
	return a == api.FmNone || plain(t, a)
}
