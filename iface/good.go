package iface

import (
	"spinet/api"
	"spinet/consts"
	"spinet/scope"
	"spinet/types"
)

// sound is all of Good but the numbers of the module's own records, which Trim
// gives anew.
func sound(f api.Face) bool {
	return goodUses(f) && types.Good(f.Types) && goodTypes(f) && goodObjs(f)
}

// The module and those that it uses are names of one level: none may stand there
// twice.
func goodUses(f api.Face) bool {
	names := scope.New()
	if len(f.Uses) > api.MaxMods || names.Declare(f.Name, 0) != api.OK {
		return false
	}
	for _, u := range f.Uses {
		if names.Declare(u.Name, 0) != api.OK {
			return false
		}
	}
	return true
}

// key is a module, or with a name one of its types. A record may have the name
// of a type that is none: records are told apart by their numbers.
type key struct {
	mod, name string
	record    bool
}

func goodTypes(f api.Face) bool {
	seen := map[key]struct{}{{mod: f.Name}: {}}
	for _, u := range f.Uses {
		seen[key{mod: u.Name}] = struct{}{}
	}
	for _, x := range f.Types {
		if x.Mod == "" {
			continue
		}
		if _, known := seen[key{mod: x.Mod}]; !known || x.Mod != f.Name && x.Desc == -1 {
			return false
		}
		k := key{x.Mod, x.Name, x.Form == api.FmRecord}
		if _, twice := seen[k]; twice && x.Name != "" {
			return false
		}
		seen[k] = struct{}{}
	}
	return true
}

func own(x api.Ty, mod string) bool {
	return x.Form == api.FmRecord && x.Mod == mod
}

func inOrder(f api.Face) bool {
	next := 0
	for _, x := range f.Types {
		if !own(x, f.Name) {
			continue
		}
		if x.Desc != next {
			return false
		}
		next++
	}
	return true
}

func goodObjs(f api.Face) bool {
	if len(f.Objs) > api.MaxObjs {
		return false
	}
	names := scope.New()
	for _, o := range f.Objs {
		if names.Declare(o.Name, 0) != api.OK || !goodObj(f.Types, o) {
			return false
		}
	}
	return true
}

func goodObj(t []api.Ty, o api.Obj) bool {
	if o.Class == api.ClConst {
		return consts.Good(o.Value) && o.Type == o.Value.Form && o.N == 0
	}
	if o.Value != (api.Value{}) || o.Type < 0 || o.Type >= len(t) {
		return false
	}
	switch o.Class {
	case api.ClType:
		return declared(o.Type) && o.N == 0
	case api.ClVar:
		return hasVariables(t[o.Type]) && o.N >= 0 && o.N < api.MaxList
	case api.ClProc:
		return t[o.Type].Form == api.FmProc && o.N >= 1 && o.N < api.MaxEntry
	}
	return false
}

// declared are the places of types that names may stand for.
func declared(a int) bool {
	switch a {
	case api.FmNone, api.FmNil, api.FmText:
		return false
	}
	return true
}

// hasVariables tells whether there are variables of the type. The forms of the
// first seven are their places.
func hasVariables(x api.Ty) bool {
	return declared(x.Form) && x.Form != api.FmOpen
}
