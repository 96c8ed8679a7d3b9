package iface

import (
	"fmt"
	"math/rand"
	"regexp"
	"slices"
	"testing"

	"spinet/api"
	"spinet/consts"
	"spinet/types"
)

// The tests hold the package against a model of its own: names by a pattern,
// each two entries held against each other without a map, an object built anew
// from what its class has and compared whole; what is needed is a set that grows
// till nothing changes any more, and the order comes of a list of places that
// still wait.

var nameForm = regexp.MustCompile(`\A[A-Za-z][A-Za-z0-9]{0,23}\z`)

func modelGood(f api.Face) bool {
	return modelSound(f) && slices.IsSorted(ownDescs(f)) && (len(ownDescs(f)) == 0 || ownDescs(f)[0] == 0 && ownDescs(f)[len(ownDescs(f))-1] == len(ownDescs(f))-1)
}

func ownDescs(f api.Face) []int {
	var l []int
	for _, x := range f.Types {
		if x.Form == 9 && x.Mod == f.Name {
			l = append(l, x.Desc)
		}
	}
	return l
}

func modelSound(f api.Face) bool {
	mods := []string{f.Name}
	for _, u := range f.Uses {
		mods = append(mods, u.Name)
	}
	var names []string
	for _, o := range f.Objs {
		names = append(names, o.Name)
	}
	return len(mods) <= 17 && len(names) <= 64 && allNamesOnce(mods) && allNamesOnce(names) && types.Good(f.Types) && modelTypes(f, mods) && !slices.ContainsFunc(f.Objs, func(o api.Obj) bool { return !modelObj(f.Types, o) })
}

func allNamesOnce(l []string) bool {
	for i, name := range l {
		if !nameForm.MatchString(name) || slices.Index(l, name) != i {
			return false
		}
	}
	return true
}

func modelTypes(f api.Face, mods []string) bool {
	for a, x := range f.Types {
		if x.Mod != "" && !slices.Contains(mods, x.Mod) || x.Form == 9 && x.Mod != f.Name && x.Desc < 0 {
			return false
		}
		for _, y := range f.Types[:a] {
			if x.Name != "" && x.Mod+"."+x.Name == y.Mod+"."+y.Name && (x.Form == 9) == (y.Form == 9) {
				return false
			}
		}
	}
	return true
}

func modelObj(t tys, o api.Obj) bool {
	if o.Type < 0 || o.Type >= len(t) {
		return false
	}
	again := api.Obj{Class: o.Class, Name: o.Name, Type: o.Type}
	form, ok := t[o.Type].Form, false
	switch o.Class {
	case 1:
		again.Value = o.Value
		ok = consts.Good(o.Value) && o.Value.Form == o.Type
	case 2:
		ok = !slices.Contains([]int{0, 5, 6}, o.Type)
	case 3:
		again.N = o.N
		ok = slices.Contains([]int{1, 2, 3, 4, 7, 9, 10, 11}, form) && o.N > -1 && o.N < 64
	case 4:
		again.N = o.N
		ok = form == 11 && o.N > 0 && o.N < 64
	}
	return ok && o == again
}

// parts are the places of a type, in the order in which they are visited.
func parts(x api.Ty) []int {
	l := []int{x.Elem, x.Base}
	for _, f := range x.Fields {
		l = append(l, f.Type)
	}
	for _, p := range x.Params {
		l = append(l, p.Type)
	}
	return append(l, x.Result)
}

// modelOrder takes the first place that waits; what stands in its type waits
// ahead of all others then.
func modelOrder(f api.Face) []int {
	order := []int{0, 1, 2, 3, 4, 5, 6}
	var waiting []int
	for _, o := range f.Objs {
		waiting = append(waiting, o.Type)
	}
	for len(waiting) > 0 {
		a := waiting[0]
		waiting = waiting[1:]
		if !slices.Contains(order, a) {
			order = append(order, a)
			waiting = append(parts(f.Types[a]), waiting...)
		}
	}
	return order
}

func modelNeeded(f api.Face) []bool {
	need := make([]bool, len(f.Types))
	for a := range 7 {
		need[a] = true
	}
	for _, o := range f.Objs {
		need[o.Type] = true
	}
	for changed := true; changed; {
		changed = false
		for a, x := range f.Types {
			for _, b := range parts(x) {
				changed = changed || need[a] && !need[b]
				need[b] = need[b] || need[a]
			}
		}
	}
	return need
}

func modelTrim(f api.Face) (api.Face, bool) {
	if !modelSound(f) {
		return api.Face{}, false
	}
	order := modelOrder(f)
	place := func(a int) int { return slices.Index(order, a) }
	out := api.Face{Name: f.Name, Key: f.Key, Uses: f.Uses}
	for _, a := range order {
		x := f.Types[a]
		y := api.Ty{Form: x.Form, Mod: x.Mod, Name: x.Name, Len: x.Len, Elem: place(x.Elem), Base: place(x.Base), Result: place(x.Result), Desc: x.Desc}
		for _, e := range x.Fields {
			y.Fields = append(y.Fields, api.TyField{Name: e.Name, Export: e.Export, Type: place(e.Type)})
		}
		for _, e := range x.Params {
			y.Params = append(y.Params, api.TyParam{Var: e.Var, Type: place(e.Type)})
		}
		if y.Form == 9 && y.Mod == f.Name {
			y.Desc = len(ownDescs(out))
		}
		out.Types = append(out.Types, y)
	}
	for _, o := range f.Objs {
		o.Type = place(o.Type)
		out.Objs = append(out.Objs, o)
	}
	return out, len(ownDescs(out)) <= 64
}

// maker makes random interfaces that are often Good.
type maker struct {
	*rand.Rand
	t tys
	n int
}

func (m *maker) chance(n int) bool { return m.Intn(n) == 0 }

func (m *maker) mod() string {
	if m.chance(60) {
		return "D"
	}
	return []string{"A", "A", "B", "C"}[m.Intn(4)]
}

// pick is a place with one of these forms, sometimes one that is yet to be made.
func (m *maker) pick(later bool, forms ...int) int {
	if later && m.chance(4) {
		return 7 + m.Intn(m.n)
	}
	var l []int
	for a, x := range m.t {
		if slices.Contains(forms, x.Form) {
			l = append(l, a)
		}
	}
	if len(l) == 0 {
		return 1
	}
	return l[m.Intn(len(l))]
}

func (m *maker) record() api.Ty {
	x := record(m.mod(), len(m.t)-6, 0)
	if m.chance(2) {
		if x.Base = m.pick(false, 9); x.Base == 1 {
			x.Base = 0
		}
	}
	for range m.Intn(3) {
		x.Fields = append(x.Fields, api.TyField{Name: fmt.Sprint("f", m.Intn(90)), Export: m.chance(2), Type: m.pick(false, 1, 2, 3, 4, 7, 9, 10, 11)})
	}
	if x.Mod == "A" {
		x.Desc = len(ownDescs(mod(m.t)))
	}
	if m.chance(20) {
		x.Desc = m.Intn(12) - 1
	}
	if m.chance(3) {
		x.Name = fmt.Sprint("T", m.Intn(12))
	}
	return x
}

func (m *maker) proc() api.Ty {
	x := proc(0)
	if m.chance(2) {
		x.Result = m.pick(m.chance(9), 1, 2, 10, 11)
	}
	for range m.Intn(3) {
		x.Params = append(x.Params, api.TyParam{Var: m.chance(2), Type: m.pick(true, 1, 2, 7, 8, 9, 10, 11)})
	}
	return x
}

func (m *maker) one() api.Ty {
	var x api.Ty
	switch m.Intn(6) {
	case 0:
		x = array(1+m.Intn(5), m.pick(false, 1, 3, 7, 9, 10, 11))
	case 1:
		x = open(m.pick(false, 1, 3, 7, 8, 8, 9, 10, 11))
	case 2:
		x = proc(0)
		if a := m.pick(false, 9); a > 6 {
			x = pointer(a)
		}
	case 3, 4:
		return m.record()
	default:
		x = m.proc()
	}
	if m.chance(3) {
		return named(x, m.mod(), fmt.Sprint("T", m.Intn(12)))
	}
	return x
}

func (m *maker) obj(i int) api.Obj {
	o := api.Obj{Name: fmt.Sprint("o", i), Type: 7 + m.Intn(m.n)}
	switch m.Intn(4) {
	case 0:
		o = constOf(o.Name, 1+m.Intn(6), 0)
	case 1:
		o.Class = api.ClType
	case 2:
		o.Class, o.N = api.ClVar, m.Intn(64)
		o.Type = m.pick(false, 1, 7, 9, 10, 11)
	case 3:
		o.Class, o.N = api.ClProc, 1+m.Intn(63)
		if o.Type = m.pick(false, 11); o.Type == 1 {
			o.Class = api.ClVar
		}
	}
	if m.chance(80) {
		o.Name = "o0"
	}
	if m.chance(80) {
		o.Type, o.Class = m.Intn(9)-1, m.Intn(6)
	}
	if m.chance(80) {
		o.N = m.Intn(90) - 9
	}
	return o
}

func (m *maker) face() api.Face {
	m.n, m.t = 1+m.Intn(14), head()
	for range m.n {
		m.t = append(m.t, m.one())
	}
	f := mod(m.t)
	if m.chance(60) {
		f.Name = []string{"B", "D", "", "a.b"}[m.Intn(4)]
	}
	if m.chance(60) {
		f.Uses = slices.Delete(f.Uses, 1, 2)
	}
	if m.chance(60) {
		f.Uses = append(f.Uses, api.Used{Name: []string{"A", "B", "D", "E", "1"}[m.Intn(5)], Key: m.Uint32()})
	}
	for i := range m.Intn(6) {
		f.Objs = append(f.Objs, m.obj(i))
	}
	return f
}

// P16.1 to P16.3, over random interfaces.
func TestAgainstTheModel(t *testing.T) {
	m := &maker{Rand: rand.New(rand.NewSource(16))}
	good, sound, shorter, turned := 0, 0, 0, 0
	for range 30000 {
		f := m.face()
		mustGood(t, f, modelGood(f))
		want, ok := modelTrim(f)
		if !ok {
			mustRefuse(t, f)
			continue
		}
		mustTrim(t, f, want)
		mustSame(t, f, want, alike(f, want))
		sound++
		if modelGood(f) {
			good++
		}
		needed := 0
		for _, need := range modelNeeded(f) {
			if need {
				needed++
			}
		}
		if needed != len(want.Types) {
			t.Errorf("P16.2: %d types are needed, of %s the model has %d", needed, say(f), len(want.Types))
		}
		if len(want.Types) < len(f.Types) {
			shorter++
		}
		if l := modelOrder(f); !slices.IsSorted(l) && len(l) > 9 {
			turned++
		}
		if t.Failed() {
			return
		}
	}
	// The interfaces must be such that the answers tell something.
	if good < 3000 || good > 25000 || sound < good+1000 || shorter < 3000 || turned < 1000 {
		t.Errorf("%d good interfaces, %d that Trim takes, %d of them shorter then, %d turned", good, sound, shorter, turned)
	}
}
