package layout

import (
	"fmt"
	"math/big"
	"math/rand"
	"slices"
	"testing"

	"spinet/api"
	"spinet/types"
)

// The tests hold the package against a model: it reckons whole numbers of any
// size, cuts them only when they are told, steps on byte by byte till a place
// will do, and lays a record's fields down in one go, from the last base on.
type model struct {
	t     tys
	sizes map[int]*big.Int
}

func (m *model) size(a int) *big.Int {
	if n := m.sizes[a]; n != nil {
		return n
	}
	n := new(big.Int)
	switch x := m.t[a]; x.Form {
	case 1, 4, 10, 11:
		n.SetInt64(4)
	case 2, 3:
		n.SetInt64(1)
	case 7:
		n.Mul(big.NewInt(int64(x.Len)), m.size(x.Elem))
		step(n)
	case 9:
		_, end := m.fields(a)
		n.Set(end)
	}
	m.sizes[a] = n
	return n
}

// step goes on to a multiple of 4.
func step(n *big.Int) {
	for new(big.Int).And(n, big.NewInt(3)).Sign() != 0 {
		n.Add(n, big.NewInt(1))
	}
}

type lying struct {
	name string
	typ  int
	at   *big.Int
}

// fields are the record's, its bases' ahead of its own, and to where they reach.
func (m *model) fields(a int) ([]lying, *big.Int) {
	var l []lying
	end := new(big.Int)
	if base := m.t[a].Base; base != 0 {
		l, end = m.fields(base)
	}
	for _, f := range m.t[a].Fields {
		if f.Type != 2 && f.Type != 3 {
			step(end)
		}
		l = append(l, lying{f.Name, f.Type, new(big.Int).Set(end)})
		end.Add(end, m.size(f.Type))
	}
	step(end)
	return l, end
}

// told is a size as it is answered.
func told(n *big.Int) int {
	if n.Cmp(big.NewInt(api.MaxBytes)) > 0 {
		return api.MaxBytes + 1
	}
	return int(n.Int64())
}

// vars makes the types fields of a record behind the table.
func (m *model) vars(l []int) ([]int, int) {
	x := record(0)
	for i, a := range l {
		if a < 0 || a >= len(m.t) {
			return nil, 0
		}
		x.Fields = append(x.Fields, field(fmt.Sprint("v", i), a))
	}
	behind := &model{t: append(slices.Clone(m.t), x), sizes: m.sizes}
	laid, end := behind.fields(len(m.t))
	if told(end) > api.MaxBytes {
		return nil, 0
	}
	var at []int
	for _, f := range laid {
		at = append(at, int(f.at.Int64()))
	}
	return at, int(end.Int64())
}

// maker makes random tables, most of them Good.
type maker struct {
	*rand.Rand
	t tys
}

func (m *maker) chance(n int) bool { return m.Intn(n) == 0 }

// part is a type that a field or an element may have, characters and truths more
// often than others.
func (m *maker) part() int {
	if m.chance(2) {
		return []int{1, 2, 3, 2, 3, 4}[m.Intn(6)]
	}
	for range 40 {
		a := m.Intn(len(m.t))
		if f := m.t[a].Form; f == 7 || f >= 9 {
			return a
		}
	}
	return 1
}

func (m *maker) aRecord() int {
	for range 40 {
		if a := m.Intn(len(m.t)); m.t[a].Form == 9 {
			return a
		}
	}
	return 0
}

func (m *maker) record() api.Ty {
	x := record(0)
	if m.chance(2) {
		x.Base = m.aRecord()
	}
	for i := range m.Intn(7) {
		x.Fields = append(x.Fields, field(fmt.Sprintf("f%dx%d", len(m.t), i), m.part()))
	}
	return x
}

func (m *maker) one() api.Ty {
	switch m.Intn(8) {
	case 0, 1:
		return array([]int{1, 2, 3, 4, 5, 7, 13, 61, 1023, 2047, 4095, 4096}[m.Intn(12)], m.part())
	case 2:
		return open(m.part())
	case 3:
		if a := m.aRecord(); a != 0 {
			return pointer(a)
		}
		return proc(1)
	case 4:
		return proc(0, api.TyParam{Type: m.part()})
	}
	return m.record()
}

func (m *maker) table() tys {
	m.t = head()
	for range 1 + m.Intn(16) {
		m.t = append(m.t, m.one())
	}
	return m.t
}

// list is of any types of the table, now and then with a place outside.
func (m *maker) list() []int {
	var l []int
	for range m.Intn(9) {
		a := m.part()
		if m.chance(4) {
			a = m.Intn(len(m.t))
		}
		if m.chance(60) {
			a = []int{-1, len(m.t)}[m.Intn(2)]
		}
		l = append(l, a)
	}
	return l
}

// P14.1 to P14.3, over random tables, all their types and all their fields.
func TestAgainstTheModel(t *testing.T) {
	m := &maker{Rand: rand.New(rand.NewSource(14))}
	good, great, inBases, laid := 0, 0, 0, 0
	for range 4000 {
		l := m.table()
		if !types.Good(l) {
			continue
		}
		good++
		x := &model{t: l, sizes: map[int]*big.Int{}}
		for a := range l {
			mustSize(t, l, a, told(x.size(a)))
			if told(x.size(a)) > api.MaxBytes {
				great++
			} else if l[a].Base != 0 {
				inBases++
			}
			mustLieAsTheModelSays(t, x, a)
		}
		mustKeepApart(t, l)
		for range 8 {
			given := m.list()
			at, n := x.vars(given)
			mustVars(t, l, given, at, n)
			laid += len(at)
		}
		if t.Failed() {
			return
		}
	}
	// The tables must be such that the answers tell something.
	if good < 2500 || great < 1000 || inBases < 2000 || laid < 20000 {
		t.Errorf("%d good tables, %d types too great, %d extensions, %d variables", good, great, inBases, laid)
	}
}

func mustLieAsTheModelSays(t *testing.T, x *model, a int) {
	t.Helper()
	there := map[string]int{}
	if x.t[a].Form == 9 && told(x.size(a)) <= api.MaxBytes {
		l, _ := x.fields(a)
		for _, f := range l {
			mustLie(t, x.t, a, f.name, int(f.at.Int64()), f.typ)
			there[f.name] = 1
		}
	}
	for _, y := range x.t {
		for _, f := range y.Fields {
			if there[f.Name] == 0 {
				mustNotLie(t, x.t, a, f.Name)
			}
		}
	}
}
