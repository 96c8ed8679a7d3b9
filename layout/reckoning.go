package layout

import "spinet/api"

const wordBytes = 4

// reckoning is the sizes of a Good table's types, so far as they were asked for:
// a type may stand in others in more ways than can be gone one by one.
type reckoning struct {
	table []api.Ty
	known [api.MaxTypes]bool
	sizes [api.MaxTypes]int
}

func (r *reckoning) size(a int) int {
	if !r.known[a] {
		r.sizes[a] = bounded(r.reckon(r.table[a]))
		r.known[a] = true
	}
	return r.sizes[a]
}

func (r *reckoning) reckon(x api.Ty) int {
	switch x.Form {
	case api.FmInt, api.FmSet, api.FmPointer, api.FmProc:
		return wordBytes
	case api.FmBool, api.FmChar:
		return 1
	case api.FmArray:
		return roundUp(x.Len * r.size(x.Elem))
	case api.FmRecord:
		return r.reckonRecord(x)
	}
	return 0
}

func (r *reckoning) reckonRecord(x api.Ty) int {
	end := r.first(x)
	for _, f := range x.Fields {
		_, end = r.lay(end, f.Type)
	}
	return roundUp(end)
}

// first is where a record's own fields begin. Without a Base that is the size of
// FmNone, 0.
func (r *reckoning) first(x api.Ty) int {
	return r.size(x.Base)
}

// lay tells where the next thing lies, of type a, when those ahead of it reach to
// end, and to where it reaches.
func (r *reckoning) lay(end, a int) (at, next int) {
	at = end
	if !packed(a) {
		at = roundUp(end)
	}
	return at, at + r.size(a)
}

// packed are the types that lie at the next byte, whatever its place. A Good
// table has each of them at just one place.
func packed(a int) bool {
	return a == api.FmBool || a == api.FmChar
}

// find goes from the record to its bases; behind the last one stands FmNone.
func (r *reckoning) find(a int, field string) (int, int, bool) {
	for r.table[a].Form == api.FmRecord {
		x := r.table[a]
		end := r.first(x)
		for _, f := range x.Fields {
			at, next := r.lay(end, f.Type)
			if f.Name == field {
				return at, f.Type, true
			}
			end = next
		}
		a = x.Base
	}
	return 0, 0, false
}

func roundUp(n int) int {
	return (n + wordBytes - 1) / wordBytes * wordBytes
}

// bounded makes one size of all that are too great, so that types in one another
// don't grow beyond what an int holds.
func bounded(n int) int {
	return min(n, api.MaxBytes+1)
}
