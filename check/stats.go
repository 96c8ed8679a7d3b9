package check

import (
	"spinet/api"
	"spinet/types"
)

func (c *checker) block(l []api.Stat) {
	for _, s := range l {
		c.stat(s)
	}
}

func (c *checker) stat(s api.Stat) {
	switch s.Kind {
	case api.StAssign:
		c.assign(s)
	case api.StCall:
		c.callStat(s.Exprs[0])
	case api.StIf, api.StWhile:
		c.branches(s)
	case api.StCase:
		c.caseStat(s)
	case api.StRepeat:
		c.block(s.Blocks[0])
		c.condition(s.Exprs[0])
	case api.StFor:
		c.forStat(s)
	}
}

func (c *checker) assign(s api.Stat) {
	to := isVariable(c.whole(s.Exprs[0]), s.Exprs[0].At)
	from := c.wholeValue(s.Exprs[1])
	if to.readOnly {
		fail(api.ErrVar, s.Exprs[0].At)
	}
	if !c.assignable(from, to.place) {
		fail(api.ErrType, s.At)
	}
}

// assignable tells whether a value may be assigned to a variable of the type to.
func (c *checker) assignable(from thing, to int) bool {
	if _, ok := letter(from); ok && to == api.FmChar {
		return true
	}
	return types.Assign(c.table, from.typ(), to) && c.holds(to, from)
}

// holds tells whether an array has a place more than a text has bytes.
func (c *checker) holds(to int, from thing) bool {
	k, ok := from.(constant)
	return !ok || k.value.Form != api.FmText || c.table[to].Len > len(k.value.Text)
}

func (c *checker) callStat(e api.Expr) {
	x := c.whole(e)
	ok := false
	if e.Kind == api.ExCall {
		_, ok = x.(nothing)
	} else {
		p := c.table[x.typ()]
		ok = p.Form == api.FmProc && len(p.Params) == 0 && p.Result == api.FmNone
	}
	if !ok {
		fail(api.ErrType, e.At)
	}
}

func (c *checker) condition(e api.Expr) {
	if c.wholeValue(e).typ() != api.FmBool {
		fail(api.ErrType, e.At)
	}
}

// branches has one block more than conditions, if there is an ELSE.
func (c *checker) branches(s api.Stat) {
	for i, b := range s.Blocks {
		if i < len(s.Exprs) {
			c.condition(s.Exprs[i])
		}
		c.block(b)
	}
}

func (c *checker) forStat(s api.Stat) {
	x, ok := c.find(s.Name)
	if !ok {
		fail(api.ErrName, s.At)
	}
	if v := isVariable(x, s.At); v.place != api.FmInt || v.passed {
		fail(api.ErrVar, s.At)
	}
	c.wholeInt(s.Exprs[0])
	c.wholeInt(s.Exprs[1])
	for _, e := range s.Exprs[2:] {
		if by := c.constant(e); by.Form != api.FmInt || by.N == 0 {
			fail(api.ErrConst, e.At)
		}
	}
	c.block(s.Blocks[0])
}
