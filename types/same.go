package types

import "spinet/api"

// pair is two types, the one at the lower place first: Same is the same the
// other way round.
type pair [2]int

func pairOf(a, b int) pair {
	return pair{min(a, b), max(a, b)}
}

// question is whether some types are the same. All pairs on its way must be, so
// that none needs to be looked at twice: one that was asked already is the same,
// unless another pair tells that the whole is not.
type question struct {
	asked map[pair]struct{}
	open  []pair
}

func (q *question) ask(a, b int) {
	p := pairOf(a, b)
	if _, again := q.asked[p]; again {
		return
	}
	q.asked[p] = struct{}{}
	q.open = append(q.open, p)
}

func (t table) same(a, b int) bool {
	q := question{asked: map[pair]struct{}{}}
	q.ask(a, b)
	for len(q.open) > 0 {
		last := len(q.open) - 1
		p := q.open[last]
		q.open = q.open[:last]
		if p[0] != p[1] && !q.alike(t[p[0]], t[p[1]]) {
			return false
		}
	}
	return true
}

// alike tells whether two types at two places may be the same, and asks for the
// types in them. Two records never are: Good lets no two have one Mod and one
// Desc other than -1.
func (q *question) alike(x, y api.Ty) bool {
	switch {
	case x.Form == api.FmProc && y.Form == api.FmProc:
		return q.alikeProcs(x, y)
	case x.Name != "" || y.Name != "":
		return x.Mod == y.Mod && x.Name == y.Name && byName(x) && byName(y)
	case x.Form != y.Form || x.Len != y.Len:
		return false
	}
	switch x.Form {
	case api.FmArray, api.FmOpen, api.FmPointer:
		q.ask(x.Elem, y.Elem)
		return true
	}
	return false
}

func byName(x api.Ty) bool {
	return x.Form != api.FmRecord && x.Form != api.FmProc
}

func (q *question) alikeProcs(x, y api.Ty) bool {
	if len(x.Params) != len(y.Params) {
		return false
	}
	for i, p := range x.Params {
		if p.Var != y.Params[i].Var {
			return false
		}
		q.ask(p.Type, y.Params[i].Type)
	}
	q.ask(x.Result, y.Result)
	return true
}
