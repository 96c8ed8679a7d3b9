package check

import "spinet/api"

// labels are those of a StCase so far.
type labels struct {
	form   int
	ranges [][2]int
	count  int // of the numbers in them
}

func (c *checker) caseStat(s api.Stat) {
	form := c.wholeValue(s.Exprs[0]).typ()
	if form != api.FmInt && form != api.FmChar {
		fail(api.ErrType, s.Exprs[0].At)
	}
	l := labels{form: form}
	for i, b := range s.Blocks {
		for _, e := range s.Labels[i] {
			first, last := c.label(e, form)
			l.add(first, last, e.At)
		}
		c.block(b)
	}
}

func (c *checker) label(e api.Expr, form int) (first, last int) {
	if e.Kind != api.ExRange {
		n := labelNumber(c.whole(e), form, e.At)
		return n, n
	}
	a, b := e.Args[0], e.Args[1]
	first = labelNumber(c.expr(a), form, a.At)
	last = labelNumber(c.expr(b), form, b.At)
	return first, last
}

func labelNumber(x thing, form, at int) int {
	v := fixed(x, at)
	if ch, ok := letter(x); ok {
		v = ch
	}
	if v.Form != form {
		fail(api.ErrConst, at)
	}
	return v.N
}

func (l *labels) add(first, last, at int) {
	if last < first {
		fail(api.ErrLabel, at)
	}
	for _, r := range l.ranges {
		if first <= r[1] && last >= r[0] {
			fail(api.ErrLabel, at)
		}
	}
	l.ranges = append(l.ranges, [2]int{first, last})
	l.count += last - first + 1
	if l.count > api.MaxLen {
		fail(api.ErrMany, at)
	}
}
