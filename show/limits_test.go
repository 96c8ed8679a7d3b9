package show

import (
	"testing"

	"spinet/api"
	"spinet/token"
	"spinet/tree"
)

// mustTellAll holds Tokens against the model's text, whatever its length: it is
// cut at its blanks, so that no token may have one within.
func mustTellAll(t *testing.T, m api.Module) {
	t.Helper()
	if !tree.Check(m) {
		t.Fatal("no module")
	}
	l, err := Tokens(m)
	if err != api.OK {
		t.Fatal(err)
	}
	var pieces []string
	for _, x := range l {
		s, err := token.Text([]api.Token{x})
		if err != api.OK || x.At != 0 {
			t.Fatal(x, err)
		}
		pieces = append(pieces, s)
	}
	if words(pieces...) != modelModule(m) {
		t.Fatalf("%d tokens, not the model's", len(l))
	}
}

// ofTokens is a module of n tokens, from 8 on, of that name.
func ofTokens(n int, name string) api.Module {
	m := api.Module{Name: "A"}
	const full = 122 // of a call with 60 arguments
	left := n - 7
	for left > full+1 {
		m.Body = append(m.Body, call(callOf(60, aName(name), name)))
		left -= full + 1
	}
	switch {
	case left == 1:
		m.Body = append(m.Body, call(aName(name)))
	case left == 2:
		m.Body = append(m.Body, call(with(api.ExDeref, aName(name))))
	case left == 3:
		m.Body = append(m.Body, call(callOf(0, aName(name), name)))
	case left == 4:
		m.Body = append(m.Body, call(callOf(1, aName(name), name)))
	case left%2 == 1:
		m.Body = append(m.Body, call(callOf((left-3)/2, with(api.ExDeref, aName(name)), name)))
	default:
		m.Body = append(m.Body, call(callOf((left-2)/2, aName(name), name)))
	}
	return m
}

func callOf(args int, what api.Expr, name string) api.Expr {
	l := some(args, func() api.Expr { return aName(name) })
	return with(api.ExCall, append([]api.Expr{what}, l...)...)
}

func TestTokensByNumber(t *testing.T) {
	for n := 8; n < 300; n++ {
		m := ofTokens(n, "x")
		if l, err := Tokens(m); len(l) != n || err != api.OK {
			t.Fatal(n, len(l), err)
		}
		mustShow(t, m, modelModule(m))
	}
}

func TestTokensThatAreTooMany(t *testing.T) {
	for n := api.MaxTokens - 3; n <= api.MaxTokens+130; n++ {
		for _, name := range []string{"x", "xyzxyzxyz"} {
			m := ofTokens(n, name)
			if l, err := Tokens(m); len(l) != n || err != api.OK {
				t.Fatal(n, len(l), err)
			}
			s, err := Module(m)
			switch {
			case n > api.MaxTokens: // even if the text is too long
				if s != "" || err != api.ErrMany {
					t.Fatal(n, len(s), err)
				}
			case name == "x":
				mustShow(t, m, modelModule(m))
			default:
				if s != "" || err != api.ErrLong {
					t.Fatal(n, len(s), err)
				}
			}
		}
	}
	mustTellAll(t, ofTokens(api.MaxTokens, "x"))
	mustTellAll(t, ofTokens(api.MaxTokens+1, "xyz"))
}

// Far more tokens than a source has, in a module that is within the limits.
func TestTokensOfAnyNumber(t *testing.T) {
	m := api.Module{Name: "A"}
	for range api.MaxList {
		p := api.Proc{Name: "P", Export: true, Result: []api.Texpr{{Kind: api.TxName, Mod: "M", Name: "T"}}}
		for range 60 {
			p.Params = append(p.Params, api.Param{Name: "p", Var: true, Type: api.Texpr{Kind: api.TxName, Mod: "M", Name: "T"}})
		}
		m.Procs = append(m.Procs, p)
	}
	l, err := Tokens(m)
	// Of a procedure: 60 params of six tokens, ";" between them, 13 around.
	if want := 6 + api.MaxList*(60*6+59+13); len(l) != want || err != api.OK {
		t.Error(len(l), want, err)
	}
	mustTellAll(t, m)
	if s, err := Module(m); s != "" || err != api.ErrMany {
		t.Error(len(s), err)
	}
}

// ofBytes is a module whose tokens' text has n bytes.
func ofBytes(n int) api.Module {
	m := api.Module{Name: "A"}
	for range 4 {
		args := some(60, func() api.Expr { return aText("") })
		m.Body = append(m.Body, call(with(api.ExCall, append([]api.Expr{aName("f")}, args...)...)))
	}
	left := n - len(modelModule(m))
	for _, s := range m.Body {
		args := s.Exprs[0].Args[1:]
		for i := range args {
			size := min(left, api.MaxString)
			args[i].Text = times(size, "t")
			left -= size
		}
	}
	return m
}

func TestTextsAsLongAsMayBe(t *testing.T) {
	for n := 2000; n < api.MaxText+200; n++ {
		if n > 2010 && n < api.MaxText-10 && n%1000 != 0 {
			continue
		}
		m := ofBytes(n)
		l, err := Tokens(m)
		if err != api.OK || len(l) != 4*122+3+7 {
			t.Fatal(len(l), err)
		}
		text, err := token.Text(l)
		if err == api.OK && len(text) != n || (err == api.OK) != (n <= api.MaxText) {
			t.Fatal(n, len(text), err)
		}
		if n < api.MaxText {
			// With the line's end, at most MaxText.
			mustShow(t, m, text)
			continue
		}
		if s, err := Module(m); s != "" || err != api.ErrLong {
			t.Fatal(n, len(s), err)
		}
		mustTellAll(t, m)
	}
}
