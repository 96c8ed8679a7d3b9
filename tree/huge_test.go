package tree

import (
	"testing"

	"spinet/api"
)

// Chains of n nodes, one within the other, around a thing that has that name.
func deepExpr(n int, name string) api.Module {
	e := api.Expr{Kind: api.ExName, Text: name}
	for range n {
		e = api.Expr{Kind: api.ExDeref, Args: []api.Expr{e}}
	}
	return api.Module{Name: "A", Body: []api.Stat{{Kind: api.StCall, Exprs: []api.Expr{e}}}}
}

func deepType(n int, name string) api.Module {
	e := api.Texpr{Kind: api.TxName, Name: name}
	for i := range n {
		if i%2 == 0 {
			e = api.Texpr{Kind: api.TxPointer, Elem: []api.Texpr{e}}
		} else {
			e = api.Texpr{Kind: api.TxRecord, Fields: []api.Field{{Name: "f", Type: e}}}
		}
	}
	return api.Module{Name: "A", Vars: []api.Var{{Name: "v", Type: e}}}
}

func deepStat(n int, name string) api.Module {
	s := api.Stat{Kind: api.StCall, Exprs: []api.Expr{{Kind: api.ExName, Text: name}}}
	for range n {
		s = api.Stat{Kind: api.StRepeat, Exprs: []api.Expr{oneName}, Blocks: [][]api.Stat{{s}}}
	}
	return api.Module{Name: "A", Procs: []api.Proc{{Name: "P", Body: []api.Stat{s}}}}
}

func TestModulesOfAnyDepth(t *testing.T) {
	for _, deep := range []func(int, string) api.Module{deepExpr, deepType, deepStat} {
		if m := deep(50, "x"); !Check(m) || Size(m) != nodesOf(m) || !Same(m, deep(50, "x")) || Same(m, deep(50, "y")) || Same(m, deep(51, "x")) {
			t.Error("a module that is not deep")
		}
		for _, n := range []int{api.MaxNodes, 1 << 16} {
			m := deep(n, "x")
			if Check(m) || Size(m) != api.MaxNodes+1 {
				t.Error(n, Size(m))
			}
			if !Same(m, m) || !Same(m, deep(n, "x")) || Same(m, deep(n, "y")) || Same(m, deep(n-1, "x")) {
				t.Error(n, "Same")
			}
		}
	}
}

// Parts that share memory: far more nodes than were ever made.
func TestModulesOfAnySize(t *testing.T) {
	e, s, x := oneName, oneCall, oneType
	for range 60 {
		e = api.Expr{Kind: api.ExBinary, Op: "+", Args: []api.Expr{e, e}}
		s = api.Stat{Kind: api.StIf, Exprs: []api.Expr{oneName}, Blocks: [][]api.Stat{{s}, {s}}}
		x = api.Texpr{Kind: api.TxRecord, Fields: []api.Field{{Name: "f", Type: x}, {Name: "g", Type: x}}}
	}
	for i, m := range []api.Module{
		{Name: "A", Consts: []api.Const{{Name: "c", Value: e}}},
		{Name: "A", Body: []api.Stat{s}},
		{Name: "A", Types: []api.Type{{Name: "T", Type: x}}},
		{Name: "A", Procs: []api.Proc{{Name: "P", Params: []api.Param{{Name: "p", Type: x}}, Vars: []api.Var{{Name: "v", Type: x}}, Return: []api.Expr{e}}}},
	} {
		if Check(m) || Size(m) != api.MaxNodes+1 || Same(m, api.Module{Name: "A"}) {
			t.Error(i, Size(m))
		}
	}
}

// Lists of any length.
func TestModulesOfAnyWidth(t *testing.T) {
	const n = 100000
	wide := func() []api.Module {
		return []api.Module{
			{Name: "A", Imports: make([]api.Import, n)},
			{Name: "A", Procs: make([]api.Proc, n)},
			{Name: "A", Consts: make([]api.Const, n)},
			{Name: "A", Types: make([]api.Type, n)},
			{Name: "A", Vars: make([]api.Var, n)},
			{Name: "A", Body: make([]api.Stat, n)},
			{Name: "A", Body: []api.Stat{{Kind: api.StIf, Blocks: make([][]api.Stat, n)}}},
			{Name: "A", Body: []api.Stat{{Kind: api.StCase, Labels: make([][]api.Expr, n)}}},
			{Name: "A", Body: []api.Stat{{Kind: api.StCall, Exprs: make([]api.Expr, n)}}},
		}
	}
	sizes := []int{0, 0, api.MaxNodes + 1, api.MaxNodes + 1, api.MaxNodes + 1, api.MaxNodes + 1, 1, 1, api.MaxNodes + 1}
	others := wide()
	for i, m := range wide() {
		if Check(m) || Size(m) != sizes[i] || !Same(m, others[i]) {
			t.Error(i, Size(m))
		}
		for k, other := range others {
			if Same(m, other) != (i == k) {
				t.Error(i, k)
			}
		}
	}
}

// More names than one source has tokens, in a module that is within the limits.
func TestNamesThatAreMoreThanTokens(t *testing.T) {
	m := api.Module{Name: "A"}
	for range 60 {
		p := api.Proc{Name: "P"}
		for range 60 {
			p.Params = append(p.Params, api.Param{Name: "abcdefghij", Type: api.Texpr{Kind: api.TxName, Mod: "Modul", Name: "Typ"}})
		}
		m.Procs = append(m.Procs, p)
	}
	if !Check(m) || Size(m) != 3600 {
		t.Error(Size(m))
	}
	for _, name := range []*string{&m.Procs[0].Params[0].Name, &m.Procs[30].Params[30].Type.Mod, &m.Procs[59].Params[59].Type.Name} {
		old := *name
		*name = "VAR"
		if Check(m) {
			t.Error("a keyword as a name")
		}
		*name = old
	}
	if !Check(m) {
		t.Error("the test has not put everything back")
	}
}
