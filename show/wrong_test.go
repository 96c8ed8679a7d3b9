package show

import (
	"math"
	"reflect"
	"testing"

	"spinet/api"
	"spinet/tree"
)

func TestZeroModule(t *testing.T) {
	mustRefuse(t, api.Module{}, "the zero module")
	mustRefuse(t, api.Module{At: 5, Body: []api.Stat{}}, "without a name")
}

// Texts that are no names, in every place of a name.
func TestNamesThatAreNone(t *testing.T) {
	for _, s := range []string{"", "END", "MODULE", "IN", "TRUE", "NIL", "1", "1a", "a b", "a.b", " a", "a ", "a;", "(**)a", "_", "é", "\x00", "*", `"a"`, times(api.MaxName+1, "n")} {
		for what, m := range map[string]api.Module{
			"module":    {Name: s},
			"alias":     {Name: "A", Imports: []api.Import{{Alias: s, Name: "B"}}},
			"import":    {Name: "A", Imports: []api.Import{{Alias: "B", Name: s}}},
			"both":      {Name: "A", Imports: []api.Import{{Alias: s, Name: s}}},
			"const":     {Name: "A", Consts: []api.Const{{Name: s, Value: anInt(1)}}},
			"type":      {Name: "A", Types: []api.Type{{Name: s, Type: aType("T")}}},
			"var":       {Name: "A", Vars: []api.Var{{Name: s, Type: aType("T")}}},
			"type's":    inType(aType(s)),
			"field":     inType(api.Texpr{Kind: api.TxRecord, Fields: []api.Field{{Name: s, Type: aType("T")}}}),
			"base":      inType(api.Texpr{Kind: api.TxRecord, Base: []api.Texpr{aType(s)}}),
			"proc":      inProc(api.Proc{Name: s}),
			"param":     inProc(api.Proc{Name: "P", Params: []api.Param{{Name: s, Type: aType("T")}}}),
			"result":    inProc(api.Proc{Name: "P", Result: []api.Texpr{aType(s)}}),
			"FOR":       inBody(api.Stat{Kind: api.StFor, Name: s, Exprs: []api.Expr{anInt(1), anInt(2)}, Blocks: make([][]api.Stat, 1)}),
			"call":      inBody(call(aName(s))),
			"operand":   inConst(unary("-", aName(s))),
			"dot":       inConst(api.Expr{Kind: api.ExDot, Text: s, Args: []api.Expr{aName("x")}}),
			"qualified": inType(api.Texpr{Kind: api.TxName, Mod: "M", Name: s}),
			"qualifier": inType(api.Texpr{Kind: api.TxName, Mod: s + "!", Name: "T"}),
		} {
			mustRefuse(t, m, what+" "+s)
		}
	}
}

func TestExpressionsThatAreNone(t *testing.T) {
	x, one := aName("x"), anInt(1)
	span := with(api.ExRange, one, x)
	sum := binary("+", x, one)
	for what, e := range map[string]api.Expr{
		"no kind":               {},
		"a kind below":          {Kind: -1},
		"a kind above":          {Kind: api.ExBinary + 1, Args: []api.Expr{x}},
		"a number too great":    anInt(1 << 31),
		"a number too low":      anInt(-1<<31 - 1),
		"the greatest int":      anInt(math.MaxInt),
		"the lowest int":        anInt(math.MinInt),
		"a character too great": aChar(256),
		"a character below 0":   aChar(-1),
		"a text too long":       aText(times(api.MaxString+1, "t")),
		"a text with \"":        aText(`a"b`),
		"a text with a line":    aText("a\nb"),
		"a text with byte 31":   aText("\x1f"),
		"a bool of 2":           {Kind: api.ExBool, N: 2},
		"a bool below 0":        {Kind: api.ExBool, N: -1},
		"an int with a text":    {Kind: api.ExInt, Text: "1"},
		"a char with a text":    {Kind: api.ExChar, Text: "1"},
		"an int with an op":     {Kind: api.ExInt, Op: "+"},
		"an int with args":      with(api.ExInt, x),
		"a text with a number":  {Kind: api.ExText, N: 1},
		"a name with a number":  {Kind: api.ExName, Text: "x", N: 1},
		"a name with args":      {Kind: api.ExName, Text: "x", Args: []api.Expr{x}},
		"NIL with a number":     {Kind: api.ExNil, N: 1},
		"NIL with a text":       {Kind: api.ExNil, Text: "NIL"},
		"a bool with a text":    {Kind: api.ExBool, Text: "TRUE"},
		"a set with a text":     {Kind: api.ExSet, Text: "x"},
		"a range in a range":    with(api.ExSet, with(api.ExRange, span, one)),
		"half a range":          with(api.ExSet, with(api.ExRange, one)),
		"a range of three":      with(api.ExSet, with(api.ExRange, one, one, one)),
		"a range as operand":    unary("-", span),
		"a range as argument":   with(api.ExCall, x, span),
		"a range as index":      with(api.ExIndex, x, span),
		"a dot of nothing":      {Kind: api.ExDot, Text: "y"},
		"a dot of two":          {Kind: api.ExDot, Text: "y", Args: []api.Expr{x, x}},
		"a dot of a number":     {Kind: api.ExDot, Text: "y", Args: []api.Expr{one}},
		"a dot of a sum":        {Kind: api.ExDot, Text: "y", Args: []api.Expr{sum}},
		"no index":              with(api.ExIndex, x),
		"two indices at once":   with(api.ExIndex, x, one, one),
		"an index of a set":     with(api.ExIndex, with(api.ExSet), one),
		"^ of nothing":          with(api.ExDeref),
		"^ of two":              with(api.ExDeref, x, x),
		"^ of NIL":              with(api.ExDeref, with(api.ExNil)),
		"a call of nothing":     with(api.ExCall),
		"a call of a text":      with(api.ExCall, aText("f"), one),
		"a call of an operator": with(api.ExCall, unary("-", x)),
		"a unary of nothing":    {Kind: api.ExUnary, Op: "-"},
		"a unary of two":        {Kind: api.ExUnary, Op: "-", Args: []api.Expr{x, x}},
		"a unary without op":    unary("", x),
		"a unary with *":        unary("*", x),
		"a unary with OR":       unary("OR", x),
		"a binary of one":       {Kind: api.ExBinary, Op: "+", Args: []api.Expr{x}},
		"a binary of three":     {Kind: api.ExBinary, Op: "+", Args: []api.Expr{x, x, x}},
		"a binary without op":   binary("", x, x),
		"a binary with ~":       binary("~", x, x),
		"a binary with :=":      binary(":=", x, x),
		"a binary with TO":      binary("TO", x, x),
		"a binary with a text":  {Kind: api.ExBinary, Op: "+", Text: "x", Args: []api.Expr{x, x}},
		"a binary with or":      binary("or", x, x),
		"a binary with + -":     binary("+ -", x, x),
	} {
		for _, p := range append(operandSpots(), otherSpots()...) {
			mustRefuse(t, p.around(e), what)
		}
	}
}

// A range stands in a set and among labels, nowhere else.
func TestRangesInTheirPlaces(t *testing.T) {
	span := with(api.ExRange, anInt(1), anInt(2))
	for _, p := range append(operandSpots(), otherSpots()...) {
		if p.text == "CONST c = { @ } ; END A" || p.text == "CONST c = 1 IN { @ } ; END A" {
			mustShowAt(t, p, span, "1 .. 2")
		} else {
			mustRefuse(t, p.around(span), p.text)
		}
	}
	labels := func(l ...api.Expr) api.Module {
		return inBody(api.Stat{Kind: api.StCase, Exprs: []api.Expr{aName("x")}, Labels: [][]api.Expr{l}, Blocks: make([][]api.Stat, 1)})
	}
	mustShow(t, labels(span), "MODULE A ; BEGIN CASE x OF 1 .. 2 : END END A .")
	mustShow(t, labels(span, anInt(3), span), "MODULE A ; BEGIN CASE x OF 1 .. 2 , 3 , 1 .. 2 : END END A .")
	mustRefuse(t, labels(with(api.ExRange, span, anInt(1))), "a label's range in a range")
}

func TestTypesThatAreNone(t *testing.T) {
	one := aType("U")
	open := api.Texpr{Kind: api.TxOpen, Elem: []api.Texpr{one}}
	record := api.Texpr{Kind: api.TxRecord}
	ofParam := func(x api.Texpr) api.Texpr {
		return api.Texpr{Kind: api.TxProc, Params: []api.Param{{Name: "p", Type: x}}}
	}
	for what, e := range map[string]api.Texpr{
		"no kind":                  {},
		"a kind below":             {Kind: -1},
		"a kind above":             {Kind: api.TxOpen + 1},
		"a name with an element":   {Kind: api.TxName, Name: "U", Elem: []api.Texpr{one}},
		"an array without lengths": {Kind: api.TxArray, Elem: []api.Texpr{one}},
		"an array of nothing":      {Kind: api.TxArray, Lens: []api.Expr{anInt(1)}},
		"an array of two":          {Kind: api.TxArray, Lens: []api.Expr{anInt(1)}, Elem: []api.Texpr{one, one}},
		"an array with a name":     {Kind: api.TxArray, Name: "U", Lens: []api.Expr{anInt(1)}, Elem: []api.Texpr{one}},
		"a record of two bases":    {Kind: api.TxRecord, Base: []api.Texpr{one, one}},
		"a record of a record":     {Kind: api.TxRecord, Base: []api.Texpr{record}},
		"a record with an element": {Kind: api.TxRecord, Elem: []api.Texpr{one}},
		"a record of open arrays":  {Kind: api.TxRecord, Fields: []api.Field{{Name: "f", Type: open}}},
		"a pointer to nothing":     {Kind: api.TxPointer},
		"a pointer to two":         {Kind: api.TxPointer, Elem: []api.Texpr{one, one}},
		"a pointer to open arrays": {Kind: api.TxPointer, Elem: []api.Texpr{open}},
		"a pointer with fields":    {Kind: api.TxPointer, Elem: []api.Texpr{one}, Fields: []api.Field{{Name: "f", Type: one}}},
		"two results":              {Kind: api.TxProc, Result: []api.Texpr{one, one}},
		"a result of a pointer":    {Kind: api.TxProc, Result: []api.Texpr{{Kind: api.TxPointer, Elem: []api.Texpr{one}}}},
		"a param of a record":      ofParam(record),
		"a param of no kind":       ofParam(api.Texpr{}),
		"a param of open nothing":  ofParam(api.Texpr{Kind: api.TxOpen}),
		"a param of open records":  ofParam(api.Texpr{Kind: api.TxOpen, Elem: []api.Texpr{record}}),
		"an open array":            open,
	} {
		mustRefuse(t, inType(e), what)
		mustRefuse(t, inType(api.Texpr{Kind: api.TxPointer, Elem: []api.Texpr{e}}), what)
		mustRefuse(t, api.Module{Name: "A", Vars: []api.Var{{Name: "v", Type: e}}}, what)
		mustRefuse(t, inProc(api.Proc{Name: "P", Vars: []api.Var{{Name: "v", Type: e}}}), what)
		mustRefuse(t, inProc(api.Proc{Name: "P", Result: []api.Texpr{e}}), what)
	}
}

func TestStatementsThatAreNone(t *testing.T) {
	x, one := aName("x"), anInt(1)
	block := []api.Stat{call(x)}
	for what, s := range map[string]api.Stat{
		"no kind":                {},
		"a kind below":           {Kind: -1},
		"a kind above":           {Kind: api.StFor + 1, Exprs: []api.Expr{x}},
		"a call of nothing":      {Kind: api.StCall},
		"a call of two":          {Kind: api.StCall, Exprs: []api.Expr{x, x}},
		"a call of a number":     call(one),
		"a call of a sum":        call(binary("+", x, x)),
		"a call with a block":    {Kind: api.StCall, Exprs: []api.Expr{x}, Blocks: [][]api.Stat{block}},
		"a call with a name":     {Kind: api.StCall, Name: "x", Exprs: []api.Expr{x}},
		"an assignment of one":   {Kind: api.StAssign, Exprs: []api.Expr{x}},
		"an assignment of more":  {Kind: api.StAssign, Exprs: []api.Expr{x, x, x}},
		"an assignment to -x":    assign(unary("-", x), x),
		"an IF of nothing":       {Kind: api.StIf},
		"an IF without a block":  {Kind: api.StIf, Exprs: []api.Expr{x}},
		"an IF with two ELSEs":   {Kind: api.StIf, Exprs: []api.Expr{x}, Blocks: make([][]api.Stat, 3)},
		"an IF with a name":      {Kind: api.StIf, Name: "x", Exprs: []api.Expr{x}, Blocks: make([][]api.Stat, 1)},
		"an IF with labels":      {Kind: api.StIf, Exprs: []api.Expr{x}, Labels: [][]api.Expr{{x}}, Blocks: make([][]api.Stat, 1)},
		"an ELSE alone":          {Kind: api.StIf, Blocks: make([][]api.Stat, 1)},
		"a WHILE of nothing":     {Kind: api.StWhile},
		"a WHILE with an ELSE":   {Kind: api.StWhile, Exprs: []api.Expr{x}, Blocks: make([][]api.Stat, 2)},
		"a REPEAT of nothing":    {Kind: api.StRepeat, Blocks: make([][]api.Stat, 1)},
		"a REPEAT of no block":   {Kind: api.StRepeat, Exprs: []api.Expr{x}},
		"a REPEAT of two":        {Kind: api.StRepeat, Exprs: []api.Expr{x}, Blocks: make([][]api.Stat, 2)},
		"a FOR of one":           {Kind: api.StFor, Name: "i", Exprs: []api.Expr{x}, Blocks: make([][]api.Stat, 1)},
		"a FOR of four":          {Kind: api.StFor, Name: "i", Exprs: []api.Expr{x, x, x, x}, Blocks: make([][]api.Stat, 1)},
		"a FOR without a block":  {Kind: api.StFor, Name: "i", Exprs: []api.Expr{x, x}},
		"a FOR of two blocks":    {Kind: api.StFor, Name: "i", Exprs: []api.Expr{x, x}, Blocks: make([][]api.Stat, 2)},
		"a CASE of nothing":      {Kind: api.StCase},
		"a CASE of two":          {Kind: api.StCase, Exprs: []api.Expr{x, x}},
		"a case without a block": {Kind: api.StCase, Exprs: []api.Expr{x}, Labels: [][]api.Expr{{one}}},
		"a case without labels":  {Kind: api.StCase, Exprs: []api.Expr{x}, Labels: [][]api.Expr{nil}, Blocks: make([][]api.Stat, 1)},
		"a block without a case": {Kind: api.StCase, Exprs: []api.Expr{x}, Blocks: [][]api.Stat{block}},
		"an ELSE of a CASE":      {Kind: api.StCase, Exprs: []api.Expr{x}, Labels: [][]api.Expr{{one}}, Blocks: make([][]api.Stat, 2)},
	} {
		mustRefuse(t, inBody(s), what)
		mustRefuse(t, inProc(api.Proc{Name: "P", Body: []api.Stat{call(x), s}}), what)
		mustRefuse(t, inBody(api.Stat{Kind: api.StRepeat, Exprs: []api.Expr{x}, Blocks: [][]api.Stat{{s}}}), what)
	}
}

func TestProceduresThatAreNone(t *testing.T) {
	x := aName("x")
	for what, p := range map[string]api.Proc{
		"two results":    {Name: "P", Result: []api.Texpr{aType("T"), aType("T")}},
		"two RETURNs":    {Name: "P", Return: []api.Expr{x, x}},
		"a const with *": {Name: "P", Consts: []api.Const{{Name: "c", Export: true, Value: x}}},
		"a type with *":  {Name: "P", Types: []api.Type{{Name: "T", Export: true, Type: aType("U")}}},
		"a var with *":   {Name: "P", Vars: []api.Var{{Name: "v", Export: true, Type: aType("U")}}},
	} {
		mustRefuse(t, inProc(p), what)
	}
}

// One entry more than MaxList, in each list; as many as that are right.
func TestListsThatAreTooLong(t *testing.T) {
	x, one, u := aName("x"), anInt(1), aType("U")
	for what, of := range map[string]func(n int) api.Module{
		"imports": func(n int) api.Module {
			return api.Module{Name: "A", Imports: some(n, func() api.Import { return api.Import{Alias: "B", Name: "B"} })}
		},
		"consts": func(n int) api.Module {
			return api.Module{Name: "A", Consts: some(n, func() api.Const { return api.Const{Name: "c", Value: one} })}
		},
		"types": func(n int) api.Module {
			return api.Module{Name: "A", Types: some(n, func() api.Type { return api.Type{Name: "T", Type: u} })}
		},
		"vars": func(n int) api.Module {
			return api.Module{Name: "A", Vars: some(n, func() api.Var { return api.Var{Name: "v", Type: u} })}
		},
		"procs": func(n int) api.Module {
			return api.Module{Name: "A", Procs: some(n, func() api.Proc { return api.Proc{Name: "P"} })}
		},
		"body": func(n int) api.Module { return inBody(some(n, func() api.Stat { return call(x) })...) },
		"a procedure's body": func(n int) api.Module {
			return inProc(api.Proc{Name: "P", Body: some(n, func() api.Stat { return call(x) })})
		},
		"params": func(n int) api.Module {
			return inProc(api.Proc{Name: "P", Params: some(n, func() api.Param { return api.Param{Name: "p", Type: u} })})
		},
		"fields": func(n int) api.Module {
			return inType(api.Texpr{Kind: api.TxRecord, Fields: some(n, func() api.Field { return api.Field{Name: "f", Type: u} })})
		},
		"lengths": func(n int) api.Module {
			return inType(api.Texpr{Kind: api.TxArray, Lens: some(n, func() api.Expr { return one }), Elem: []api.Texpr{u}})
		},
		"elements": func(n int) api.Module { return inConst(with(api.ExSet, some(n, func() api.Expr { return one })...)) },
		"arguments": func(n int) api.Module {
			return inConst(with(api.ExCall, some(n, func() api.Expr { return x })...))
		},
		"labels of a case": func(n int) api.Module {
			return inBody(api.Stat{Kind: api.StCase, Exprs: []api.Expr{x}, Labels: [][]api.Expr{some(n, func() api.Expr { return one })}, Blocks: make([][]api.Stat, 1)})
		},
		"cases": func(n int) api.Module {
			return inBody(api.Stat{Kind: api.StCase, Exprs: []api.Expr{x}, Labels: some(n, func() []api.Expr { return []api.Expr{one} }), Blocks: make([][]api.Stat, n)})
		},
		"branches": func(n int) api.Module {
			return inBody(api.Stat{Kind: api.StIf, Exprs: some(n-1, func() api.Expr { return x }), Blocks: make([][]api.Stat, n)})
		},
		"loops": func(n int) api.Module {
			return inBody(api.Stat{Kind: api.StWhile, Exprs: some(n, func() api.Expr { return x }), Blocks: make([][]api.Stat, n)})
		},
		"a block": func(n int) api.Module {
			return inBody(api.Stat{Kind: api.StRepeat, Exprs: []api.Expr{x}, Blocks: [][]api.Stat{some(n, func() api.Stat { return call(x) })}})
		},
	} {
		for _, n := range []int{2, 3, api.MaxList} {
			mustShow(t, of(n), modelModule(of(n)))
		}
		mustRefuse(t, of(api.MaxList+1), what)
		mustRefuse(t, of(5000), what)
	}
}

// Nodes that are too many, and parts that share memory: far more nodes than
// were ever made.
func TestModulesThatAreTooBig(t *testing.T) {
	m := api.Module{Name: "A"}
	for range 62 {
		m.Procs = append(m.Procs, api.Proc{Name: "P", Consts: some(api.MaxList, func() api.Const { return api.Const{Name: "c", Value: anInt(1)} })})
	}
	m.Consts = some(api.MaxNodes-62*api.MaxList, func() api.Const { return api.Const{Name: "d", Value: anInt(1)} })
	mustTellAll(t, m)
	m.Consts = append(m.Consts, api.Const{Name: "e", Value: anInt(1)})
	mustRefuse(t, m, "a node more")

	e, s := aName("x"), call(aName("x"))
	for range 60 {
		e = binary("+", e, e)
		s = api.Stat{Kind: api.StIf, Exprs: []api.Expr{aName("x")}, Blocks: [][]api.Stat{{s}, {s}}}
	}
	mustRefuse(t, inConst(e), "many operations")
	mustRefuse(t, inBody(s), "many statements")
	for range 1 << 16 {
		e = unary("-", e)
	}
	mustRefuse(t, inConst(e), "deep operations")
}

// turned are values that stand in a part's place, one behind the other.
func turned(v reflect.Value) []reflect.Value {
	var l []reflect.Value
	switch v.Kind() {
	case reflect.Int:
		for n := -1; n <= 15; n++ {
			l = append(l, reflect.ValueOf(n))
		}
		for _, n := range []int{255, 256, 1<<31 - 1, 1 << 31, -1 << 31, -1<<31 - 1} {
			l = append(l, reflect.ValueOf(n))
		}
	case reflect.String:
		for _, s := range []string{"", "q", "END", "IN", "OR", "TRUE", "1", "a b", "a.b", "\n", `"`, "+", "~", "&", ":=", times(api.MaxName+1, "n"), times(api.MaxString+1, "n")} {
			l = append(l, reflect.ValueOf(s))
		}
	case reflect.Bool:
		l = append(l, reflect.ValueOf(!v.Bool()))
	case reflect.Slice:
		l = append(l, reflect.Zero(v.Type()), reflect.Append(v.Slice3(0, v.Len(), v.Len()), reflect.Zero(v.Type().Elem())))
		if n := v.Len(); n > 0 {
			l = append(l, v.Slice3(0, n-1, n-1), v.Slice3(1, n, n), reflect.Append(v.Slice3(0, n, n), v.Index(n-1)))
		}
	}
	return l
}

// Each part of the sources' modules is turned into others: what is still a
// module is written as the model writes it, and all else is refused.
func TestOneThingTurned(t *testing.T) {
	right, wrong := 0, 0
	for _, s := range sources {
		m := roomy(mustParse(t, s))
		visit(reflect.ValueOf(&m).Elem(), func(v reflect.Value) {
			old := reflect.New(v.Type()).Elem()
			old.Set(v)
			for _, x := range turned(v) {
				v.Set(x)
				if tree.Check(m) {
					right++
					mustShow(t, m, modelModule(m))
				} else {
					wrong++
					mustRefuse(t, m, s)
				}
			}
			v.Set(old)
		})
	}
	if right < 4000 || wrong < 7000 {
		t.Error(right, wrong)
	}
}
