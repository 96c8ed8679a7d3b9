package types

import (
	"fmt"
	"math/rand"
	"reflect"
	"regexp"
	"slices"
	"testing"

	"spinet/api"
)

// The tests hold the package against a model of its own: a type is built anew
// from what its form has and compared whole, what stands in what is a matrix
// closed step by step, and Same begins with all pairs and strikes out those that
// are not, till nothing changes any more.

var nameForm = regexp.MustCompile(`\A[A-Za-z][A-Za-z0-9]{0,23}\z`)

type model struct {
	t    tys
	same [][]bool
}

func modelOf(t tys) *model {
	m := &model{t: t}
	if m.good() {
		m.fillSame()
		return m
	}
	return nil
}

func (m *model) good() bool {
	if len(m.t) < 7 || len(m.t) > 256 || !reflect.DeepEqual(flat(m.t[:7]), flat(head())) {
		return false
	}
	for _, x := range m.t[7:] {
		if x.Form < 7 || x.Form > 11 || !reflect.DeepEqual(flat(tys{x}), flat(tys{rebuilt(x)})) || !m.goodType(x) {
			return false
		}
	}
	return !m.anyInItself() && m.goodBases() && m.apart()
}

// flat is a list in which an empty list is nil.
func flat(l tys) tys {
	var out tys
	for _, x := range l {
		x.Fields, x.Params = append([]api.TyField(nil), x.Fields...), append([]api.TyParam(nil), x.Params...)
		out = append(out, x)
	}
	return out
}

func rebuilt(x api.Ty) api.Ty {
	named := api.Ty{Form: x.Form, Mod: x.Mod, Name: x.Name}
	switch x.Form {
	case 7:
		named.Len, named.Elem = x.Len, x.Elem
	case 8, 10:
		named.Elem = x.Elem
	case 9:
		named.Base, named.Fields, named.Desc = x.Base, x.Fields, x.Desc
	case 11:
		named.Params, named.Result = x.Params, x.Result
	}
	return named
}

// of tells whether a is a place of a type of one of these forms.
func (m *model) of(a int, forms ...int) bool {
	return 0 <= a && a < len(m.t) && slices.Contains(forms, m.t[a].Form)
}

func (m *model) goodType(x api.Ty) bool {
	mod, name := nameForm.MatchString(x.Mod), nameForm.MatchString(x.Name)
	okNames := mod && name || x.Mod == "" && x.Name == "" && x.Form != 9 || mod && x.Name == "" && x.Form == 9
	ok := false
	switch x.Form {
	case 7:
		ok = slices.Contains(lengths(), x.Len) && m.of(x.Elem, 1, 2, 3, 4, 7, 9, 10, 11)
	case 8:
		ok = m.of(x.Elem, 1, 2, 3, 4, 7, 8, 9, 10, 11)
	case 9:
		ok = (x.Base == 0 || m.of(x.Base, 9)) && len(x.Fields) <= 64 && x.Desc > -2 && x.Desc < 64
		for _, f := range x.Fields {
			ok = ok && nameForm.MatchString(f.Name) && m.of(f.Type, 1, 2, 3, 4, 7, 9, 10, 11)
		}
	case 10:
		ok = m.of(x.Elem, 9)
	case 11:
		ok = len(x.Params) <= 64 && m.of(x.Result, 0, 1, 2, 3, 4, 10, 11)
		for _, p := range x.Params {
			ok = ok && m.of(p.Type, 1, 2, 3, 4, 7, 8, 9, 10, 11)
		}
	}
	return okNames && ok
}

// lengths are those that the random tables take.
func lengths() []int { return []int{1, 2, 4096} }

func (m *model) anyInItself() bool {
	n := len(m.t)
	in := make([][]bool, n)
	for a, x := range m.t {
		in[a] = make([]bool, n)
		if x.Form == 7 || x.Form == 8 {
			in[a][x.Elem] = true
		}
		if x.Form == 9 {
			in[a][x.Base] = true
			for _, f := range x.Fields {
				in[a][f.Type] = true
			}
		}
	}
	for k := range n {
		for a := range n {
			for b := range n {
				in[a][b] = in[a][b] || in[a][k] && in[k][b]
			}
		}
	}
	for a := range n {
		if in[a][a] {
			return true
		}
	}
	return false
}

// bases is the record and its bases.
func (m *model) bases(a int) []int {
	if m.t[a].Base == 0 {
		return []int{a}
	}
	return append([]int{a}, m.bases(m.t[a].Base)...)
}

func (m *model) goodBases() bool {
	for a := range m.t {
		var names []string
		l := m.bases(a)
		for _, b := range l {
			for _, f := range m.t[b].Fields {
				names = append(names, f.Name)
			}
		}
		slices.Sort(names)
		if len(l) > 5 || len(slices.Compact(slices.Clone(names))) != len(names) {
			return false
		}
	}
	return true
}

func (m *model) apart() bool {
	for a, x := range m.t {
		for _, y := range m.t[:a] {
			if x.Form == 9 && y.Form == 9 && x.Desc >= 0 && x.Mod == y.Mod && x.Desc == y.Desc {
				return false
			}
		}
	}
	return true
}

func (m *model) fillSame() {
	n := len(m.t)
	for range n {
		m.same = append(m.same, slices.Repeat([]bool{true}, n))
	}
	for changed := true; changed; {
		changed = false
		for a := range n {
			for b := range n {
				if m.same[a][b] && !m.stillSame(a, b) {
					m.same[a][b] = false
					changed = true
				}
			}
		}
	}
}

func (m *model) stillSame(a, b int) bool {
	x, y := m.t[a], m.t[b]
	if a == b || x.Form == 9 && y.Form == 9 && x.Mod == y.Mod && x.Desc == y.Desc && x.Desc != -1 {
		return true
	}
	if x.Form == 11 && y.Form == 11 {
		ok := len(x.Params) == len(y.Params) && m.same[x.Result][y.Result]
		for i := 0; ok && i < len(x.Params); i++ {
			ok = x.Params[i].Var == y.Params[i].Var && m.same[x.Params[i].Type][y.Params[i].Type]
		}
		return ok
	}
	if x.Name != "" && y.Name != "" {
		return x.Mod+"."+x.Name == y.Mod+"."+y.Name && x.Form != 9 && y.Form != 9 && x.Form != 11 && y.Form != 11
	}
	if x.Name != "" || y.Name != "" {
		return false
	}
	switch [2]int{x.Form, y.Form} {
	case [2]int{7, 7}:
		return x.Len == y.Len && m.same[x.Elem][y.Elem]
	case [2]int{8, 8}, [2]int{10, 10}:
		return m.same[x.Elem][y.Elem]
	}
	return false
}

func (m *model) extends(a, b int) bool {
	x, y := m.t[a], m.t[b]
	if x.Form == 10 && y.Form == 10 {
		return m.extends(x.Elem, y.Elem)
	}
	return x.Form == 9 && y.Form == 9 && (m.same[a][b] || m.extends(x.Base, b))
}

func (m *model) level(a int) int {
	if m.t[a].Form == 10 {
		return m.level(m.t[a].Elem)
	}
	return len(m.bases(a)) - 1
}

func (m *model) assign(from, to int) bool {
	if m.of(to, 0, 5, 6, 8) {
		return false
	}
	return m.same[from][to] || m.extends(from, to) || m.of(from, 5) && m.of(to, 10, 11) || m.of(from, 6) && m.of(to, 7) && m.of(m.t[to].Elem, 3) || m.of(from, 8) && m.of(to, 7) && m.same[m.t[from].Elem][m.t[to].Elem]
}

func (m *model) fits(from int, p api.TyParam) bool {
	to := p.Type
	toOpen := m.of(to, 8) && m.fitsOpen(from, to, p.Var)
	if p.Var {
		return !m.of(from, 0, 5, 6) && (m.same[from][to] || m.of(from, 9) && m.of(to, 9) && m.extends(from, to)) || toOpen
	}
	return m.assign(from, to) && !(m.of(from, 6, 8) && m.of(to, 7)) || toOpen
}

func (m *model) fitsOpen(from, to int, isVar bool) bool {
	if m.of(from, 6) {
		return m.of(m.t[to].Elem, 3) && !isVar
	}
	if !m.of(from, 7, 8) {
		return false
	}
	x, y := m.t[from].Elem, m.t[to].Elem
	return m.same[x][y] || m.of(y, 8) && m.fitsOpen(x, y, isVar)
}

// maker makes random tables that are often Good.
type maker struct {
	*rand.Rand
	t tys
	n int
}

func (m *maker) chance(n int) bool { return m.Intn(n) == 0 }

// pick is a place with one of these forms, now and then any number.
func (m *maker) pick(forms ...int) int {
	if m.chance(150) {
		return m.Intn(m.n+3) - 1
	}
	var l []int
	for a, x := range m.t {
		if slices.Contains(forms, x.Form) {
			l = append(l, a)
		}
	}
	if len(l) == 0 {
		return 1
	}
	return l[m.Intn(len(l))]
}

// later is a place that may be filled only behind this one.
func (m *maker) later(forms ...int) int {
	if m.chance(3) && len(m.t) < m.n {
		return len(m.t) + m.Intn(m.n-len(m.t))
	}
	return m.pick(forms...)
}

func (m *maker) names(x *api.Ty) {
	if m.chance(3) {
		x.Mod, x.Name = "A", []string{"T", "U"}[m.Intn(2)]
		if m.chance(4) {
			x.Mod = "B"
		}
	}
	if x.Form == api.FmRecord && x.Mod == "" {
		x.Mod = []string{"A", "B"}[m.Intn(2)]
	}
	if m.chance(200) {
		x.Mod, x.Name = names()[m.Intn(len(names()))].name, names()[m.Intn(len(names()))].name
	}
}

func (m *maker) record() api.Ty {
	x := record(0)
	x.Mod = ""
	if m.chance(2) {
		if x.Base = m.pick(9); x.Base == 1 {
			x.Base = 0
		}
	}
	if m.chance(2) {
		x.Desc = len(m.t) - 6 - m.Intn(2)*m.Intn(2)
	}
	for range m.Intn(3) {
		x.Fields = append(x.Fields, field(fmt.Sprint("f", m.Intn(60)), m.pick(1, 2, 3, 4, 7, 9, 10, 11)))
	}
	return x
}

func (m *maker) proc() api.Ty {
	x := proc(m.later(0, 1, 1, 2, 10, 11))
	if m.chance(2) {
		x.Result = 0
	}
	for range m.Intn(3) {
		x.Params = append(x.Params, api.TyParam{Var: m.chance(4), Type: m.later(1, 2, 7, 8, 9, 10, 11, 11, 11)})
	}
	return x
}

func (m *maker) one() api.Ty {
	var x api.Ty
	switch m.Intn(6) {
	case 0:
		x = array(lengths()[m.Intn(len(lengths()))], m.pick(1, 3, 7, 9, 10, 11))
	case 1:
		x = open(m.pick(1, 3, 7, 8, 8, 9, 10, 11))
	case 2:
		x = m.record()
	case 3:
		x = pointer(m.later(9))
	default:
		x = m.proc()
	}
	m.names(&x)
	if m.chance(300) {
		changes()[m.Intn(len(changes()))].make(&x)
		if x.Form == api.FmArray && !slices.Contains(lengths(), x.Len) {
			x.Len = 0
		}
	}
	return x
}

// again is a type that was made already, with a part changed now and then.
func (m *maker) again() api.Ty {
	x := m.t[7+m.Intn(len(m.t)-7)]
	x.Params = slices.Clone(x.Params)
	if x.Form == api.FmRecord {
		x.Desc = -1
	}
	if x.Form == api.FmProc && len(x.Params) > 0 && m.chance(2) {
		x.Params[m.Intn(len(x.Params))].Type = m.later(7, 8, 9, 10, 11, 11, 11)
	}
	if x.Form != api.FmRecord && m.chance(4) {
		x.Mod, x.Name = "", ""
	}
	return x
}

func (m *maker) table() tys {
	m.n = 7 + 1 + m.Intn(12)
	m.t = head()
	for len(m.t) < m.n {
		if len(m.t) > 7 && m.chance(3) {
			m.t = append(m.t, m.again())
		} else {
			m.t = append(m.t, m.one())
		}
	}
	return m.t
}

// P13.1 to P13.6, over random tables and all pairs of their types.
func TestAgainstTheModel(t *testing.T) {
	m := &maker{Rand: rand.New(rand.NewSource(13))}
	good, same, recursive := 0, 0, 0
	for range 8000 {
		l := m.table()
		x := modelOf(l)
		mustGood(t, l, x != nil)
		if x == nil {
			continue
		}
		good++
		for a := range l {
			mustLevel(t, l, a, x.level(a))
			for b := range l {
				if b >= a {
					mustSame(t, l, a, b, x.same[a][b])
				}
				mustExtend(t, l, a, b, x.extends(a, b))
				mustAssign(t, l, a, b, x.assign(a, b))
				mustFit(t, l, a, value(b), x.fits(a, value(b)))
				mustFit(t, l, a, variable(b), x.fits(a, variable(b)))
				if a != b && x.same[a][b] {
					same++
					if l[a].Form == 11 && len(l[a].Params) > 0 {
						recursive++
					}
				}
			}
		}
		if t.Failed() {
			return
		}
	}
	// The tables must be such that the answers tell something.
	if good < 2000 || good > 7000 || same < 5000 || recursive < 1000 {
		t.Errorf("%d good tables, %d pairs the same, %d of procedures", good, same, recursive)
	}
}
