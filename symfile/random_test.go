package symfile

import (
	"fmt"
	"math/rand"
	"slices"
	"testing"

	"spinet/api"
	"spinet/iface"
)

// maker makes random interfaces that are often Good.
type maker struct {
	*rand.Rand
	t tys
}

func (m *maker) chance(n int) bool { return m.Intn(n) == 0 }

// number is one of 32 bits, often a small one.
func (m *maker) number() int { return int(int32(m.Uint32())) >> m.Intn(32) }

func (m *maker) text() string {
	s := make([]byte, m.Intn(api.MaxString+1)/(1+m.Intn(8)))
	for i := range s {
		s[i] = byte('#' + m.Intn(256-'#'))
	}
	return string(s)
}

// pick is a place of one of these forms; 1, if there is none.
func (m *maker) pick(forms ...int) int {
	var l []int
	for a, x := range m.t {
		if slices.Contains(forms, x.Form) {
			l = append(l, a)
		}
	}
	if len(l) == 0 {
		return 1
	}
	return l[m.Intn(len(l))]
}

func (m *maker) variable() int { return m.pick(1, 2, 3, 4, 7, 9, 10, 11) }

func (m *maker) record() api.Ty {
	x := record([]string{"A", "B", "C"}[m.Intn(3)], m.Intn(api.MaxDesc), 0)
	if x.Mod == "A" {
		x.Desc = 0
		for _, y := range m.t {
			if y.Form == 9 && y.Mod == "A" {
				x.Desc++
			}
		}
	}
	if a := m.pick(9); a > 6 && m.chance(2) {
		x.Base = a
	}
	for i := range m.Intn(3) {
		x.Fields = append(x.Fields, api.TyField{Name: fmt.Sprintf("f%dx%d", len(m.t), i), Export: m.chance(2), Type: m.variable()})
	}
	return x
}

func (m *maker) one() api.Ty {
	switch m.Intn(6) {
	case 0:
		return array(1+m.Intn(api.MaxLen), m.variable())
	case 1:
		return open(m.pick(1, 3, 7, 8, 9, 10, 11))
	case 2:
		if a := m.pick(9); a > 6 {
			return pointer(a)
		}
	case 3:
		x := proc(m.pick(0, 1, 2, 3, 4, 10, 11))
		for range m.Intn(4) {
			x.Params = append(x.Params, api.TyParam{Var: m.chance(2), Type: m.pick(1, 7, 8, 9, 10, 11)})
		}
		return x
	}
	return m.record()
}

func (m *maker) obj(i int) api.Obj {
	name := fmt.Sprint("o", i)
	switch m.Intn(7) {
	case 0:
		return constOf(name, api.FmInt, m.number())
	case 1:
		return constOf(name, api.FmSet, int(uint32(m.number())))
	case 2:
		return constOf(name, []int{api.FmBool, api.FmChar}[m.Intn(2)], m.Intn(2))
	case 3:
		return textOf(name, m.text())
	case 4:
		if a := m.pick(11); a > 6 {
			return procOf(name, a, 1+m.Intn(63))
		}
	case 5:
		return typeOf(name, m.pick(1, 2, 3, 4, 7, 8, 9, 10, 11))
	}
	return varOf(name, m.variable(), m.Intn(64))
}

// spoil turns one number somewhere; what comes of it may be Good.
func (m *maker) spoil(f *api.Face) {
	x := &f.Types[7+m.Intn(len(f.Types)-7)]
	n := []*int{&x.Form, &x.Len, &x.Elem, &x.Base, &x.Result, &x.Desc}
	if len(f.Objs) > 0 {
		o := &f.Objs[m.Intn(len(f.Objs))]
		n = append(n, &o.Class, &o.Type, &o.Value.Form, &o.Value.N, &o.N)
	}
	*n[m.Intn(len(n))] = m.Intn(24)
}

func (m *maker) face() api.Face {
	m.t = head()
	for range 1 + m.Intn(80)/(1+m.Intn(9)) {
		m.t = append(m.t, m.one())
		if last := &m.t[len(m.t)-1]; last.Mod != "" && m.chance(2) {
			last.Name = fmt.Sprint("T", len(m.t))
		} else if last.Mod == "" && m.chance(3) {
			*last = named(*last, []string{"A", "B", "C"}[m.Intn(3)], fmt.Sprint("T", len(m.t)))
		}
	}
	f := mod(m.t)
	f.Key, f.Uses[0].Key = m.Uint32(), m.Uint32()>>m.Intn(32)
	if m.chance(3) {
		f.Uses = append(f.Uses, api.Used{Name: fmt.Sprint("U", m.Intn(9)), Key: m.Uint32()})
	}
	for i := range m.Intn(9) {
		f.Objs = append(f.Objs, m.obj(i))
	}
	if m.chance(3) {
		m.spoil(&f)
	}
	return f
}

// P17.1, P17.2, over random interfaces.
func TestRandomInterfaces(t *testing.T) {
	m := &maker{Rand: rand.New(rand.NewSource(1717))}
	good, bad := 0, 0
	for range 20000 {
		f := m.face()
		if iface.Good(f) {
			mustRoundTrip(t, f)
			good++
		} else {
			mustNotEncode(t, f, api.ErrFace)
			mustNotDecode(t, modelFile(f))
			bad++
		}
		if t.Failed() {
			return
		}
	}
	// The interfaces must be such that the answers tell something.
	if good < 5000 || bad < 1000 {
		t.Errorf("%d good interfaces, %d others", good, bad)
	}
}
