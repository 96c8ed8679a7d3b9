package types

import "spinet/api"

// How far the search for types in themselves has come with a type.
const (
	unseen = iota
	begun
	done
)

type search struct {
	t     []api.Ty
	marks [api.MaxTypes]int
}

// noneInItself wants parts that are places of the table.
func noneInItself(t []api.Ty) bool {
	s := search{t: t}
	for a := range t {
		if !s.ends(a) {
			return false
		}
	}
	return true
}

func (s *search) ends(a int) bool {
	if s.marks[a] != unseen {
		return s.marks[a] == done
	}
	s.marks[a] = begun
	if !s.partsEnd(s.t[a]) {
		return false
	}
	s.marks[a] = done
	return true
}

// partsEnd leaves out what a pointer leads to and what a procedure is handed:
// they don't stand in the type.
func (s *search) partsEnd(x api.Ty) bool {
	switch x.Form {
	case api.FmArray, api.FmOpen:
		return s.ends(x.Elem)
	case api.FmRecord:
		for _, f := range x.Fields {
			if !s.ends(f.Type) {
				return false
			}
		}
		return s.ends(x.Base)
	}
	return true
}

// own is a record by its number among its module's.
type own struct {
	mod  string
	desc int
}

// goodRecords wants bases that end.
func goodRecords(t []api.Ty) bool {
	numbered := map[own]struct{}{}
	named := map[string]int{}
	for a, x := range t {
		if x.Form != api.FmRecord {
			continue
		}
		if _, twice := numbered[own{x.Mod, x.Desc}]; twice {
			return false
		}
		if x.Desc != -1 {
			numbered[own{x.Mod, x.Desc}] = struct{}{}
		}
		if countBases(t, a) > api.MaxExt || !namedOnce(t, a, named) {
			return false
		}
	}
	return true
}

// countBases is 0 of what is no record, too: its Base is 0.
func countBases(t []api.Ty, a int) int {
	n := 0
	for t[a].Base != 0 {
		a = t[a].Base
		n++
	}
	return n
}

// namedOnce notes for each name of a field the last record that has it, in
// itself or in a base, so that one map does for all records.
func namedOnce(t []api.Ty, record int, last map[string]int) bool {
	for a := record; a != 0; a = t[a].Base {
		for _, f := range t[a].Fields {
			if last[f.Name] == record {
				return false
			}
			last[f.Name] = record
		}
	}
	return true
}
