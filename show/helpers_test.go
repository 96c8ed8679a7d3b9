package show

import (
	"reflect"
	"strings"
	"testing"

	"spinet/api"
	"spinet/token"
	"spinet/tree"
)

func mustParse(t testing.TB, s string) api.Module {
	t.Helper()
	m, at, err := tree.Parse(s)
	if err != api.OK {
		t.Fatalf("%.300q: %d, %v", s, at, err)
	}
	return m
}

// mustTell holds Tokens against the tokens of the text that is wanted.
func mustTell(t testing.TB, m api.Module, want string) {
	t.Helper()
	l, err := Tokens(m)
	if err != api.OK {
		t.Fatalf("%s: %v", want, err)
	}
	for _, x := range l {
		if x.At != 0 {
			t.Fatalf("%s: %v has a place", want, x)
		}
	}
	expected, at, err := token.Lex(want)
	if err != api.OK {
		t.Fatalf("%s: %d, %v", want, at, err)
	}
	for i := range expected {
		expected[i].At = 0
	}
	if !reflect.DeepEqual(l, expected) {
		t.Fatalf("%s: %v", want, l)
	}
}

// mustShow holds Module and Tokens against the text that is wanted, without the
// line's end, and what follows: the text is read as the module.
func mustShow(t testing.TB, m api.Module, want string) {
	t.Helper()
	got, err := Module(m)
	if got != want+"\n" || err != api.OK {
		t.Fatalf("%v\n%s, want\n%s", err, got, want)
	}
	if strings.Count(got, "\n") != 1 {
		t.Fatalf("%q: more ends of lines than one", got)
	}
	mustTell(t, m, want)
	again, at, err := tree.Parse(got)
	if err != api.OK || !tree.Same(m, again) {
		t.Fatalf("%s is read as another module: %d, %v", got, at, err)
	}
	if twice, err := Module(again); twice != got || err != api.OK {
		t.Fatalf("%v\n%s, want\n%s", err, twice, got)
	}
}

// mustRefuse sees that a module that is none has neither tokens nor a text.
func mustRefuse(t testing.TB, m api.Module, what string) {
	t.Helper()
	if tree.Check(m) {
		t.Fatalf("%s: the module is right", what)
	}
	if l, err := Tokens(m); len(l) != 0 || err != api.ErrArg {
		t.Errorf("%s: %v, %v", what, l, err)
	}
	if s, err := Module(m); s != "" || err != api.ErrArg {
		t.Errorf("%s: %q, %v", what, s, err)
	}
}

// visit comes to every part of a thing, the outer ones first.
func visit(v reflect.Value, see func(reflect.Value)) {
	see(v)
	switch v.Kind() {
	case reflect.Struct:
		for i := range v.NumField() {
			visit(v.Field(i), see)
		}
	case reflect.Slice:
		for i := range v.Len() {
			visit(v.Index(i), see)
		}
	}
}

// roomy is a copy that shares no memory; its lists have spare room with
// something in it.
func roomy[T any](x T) T {
	v := reflect.New(reflect.TypeOf(x)).Elem()
	roomyInto(v, reflect.ValueOf(x))
	return v.Interface().(T)
}

func roomyInto(to, from reflect.Value) {
	switch from.Kind() {
	case reflect.Struct:
		for i := range from.NumField() {
			roomyInto(to.Field(i), from.Field(i))
		}
	case reflect.Slice:
		n := from.Len()
		l := reflect.MakeSlice(from.Type(), n+2, n+2)
		for i := range n {
			roomyInto(l.Index(i), from.Index(i))
		}
		if spare := l.Index(n); spare.Kind() == reflect.Struct {
			spare.FieldByName("At").SetInt(99)
		}
		to.Set(l.Slice(0, n))
	case reflect.String:
		to.SetString(strings.Clone(from.String()))
	default:
		to.Set(from)
	}
}

// stretched makes the spare room of all lists a part of them.
func stretched(m *api.Module) {
	visit(reflect.ValueOf(m).Elem(), func(v reflect.Value) {
		if v.Kind() == reflect.Slice {
			v.SetLen(v.Cap())
		}
	})
}

func times(n int, s string) string {
	return strings.Repeat(s, n)
}

// between is s so many times, with the other text between.
func between(n int, s, sep string) string {
	return strings.TrimSuffix(times(n, s+sep), sep)
}

func some[T any](n int, one func() T) []T {
	var l []T
	for range n {
		l = append(l, one())
	}
	return l
}

func aName(text string) api.Expr  { return api.Expr{Kind: api.ExName, Text: text} }
func anInt(n int) api.Expr        { return api.Expr{Kind: api.ExInt, N: n} }
func aChar(n int) api.Expr        { return api.Expr{Kind: api.ExChar, N: n} }
func aText(text string) api.Expr  { return api.Expr{Kind: api.ExText, Text: text} }
func aType(name string) api.Texpr { return api.Texpr{Kind: api.TxName, Name: name} }

func with(kind int, args ...api.Expr) api.Expr {
	return api.Expr{Kind: kind, Args: args}
}

func unary(op string, x api.Expr) api.Expr {
	return api.Expr{Kind: api.ExUnary, Op: op, Args: []api.Expr{x}}
}

func binary(op string, x, y api.Expr) api.Expr {
	return api.Expr{Kind: api.ExBinary, Op: op, Args: []api.Expr{x, y}}
}

func call(e api.Expr) api.Stat {
	return api.Stat{Kind: api.StCall, Exprs: []api.Expr{e}}
}

func assign(x, y api.Expr) api.Stat {
	return api.Stat{Kind: api.StAssign, Exprs: []api.Expr{x, y}}
}

func inBody(l ...api.Stat) api.Module {
	return api.Module{Name: "A", Body: l}
}

func inConst(e api.Expr) api.Module {
	return api.Module{Name: "A", Consts: []api.Const{{Name: "c", Value: e}}}
}

func inType(t api.Texpr) api.Module {
	return api.Module{Name: "A", Types: []api.Type{{Name: "T", Type: t}}}
}

func inProc(p api.Proc) api.Module {
	return api.Module{Name: "A", Procs: []api.Proc{p}}
}
