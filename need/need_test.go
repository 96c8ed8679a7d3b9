package need

import (
	"fmt"
	"math"
	"math/rand"
	"slices"
	"testing"

	"spinet/api"
	"spinet/tree"
)

// parsed is an expression, read out of a module.
func parsed(t *testing.T, s string) api.Expr {
	t.Helper()
	m, at, err := tree.Parse("MODULE A; BEGIN x := " + s + " END A.")
	if err != api.OK {
		t.Fatalf("%s: %v at %d", s, err, at)
	}
	return m.Body[0].Exprs[1]
}

func of(kind int, args ...api.Expr) api.Expr { return api.Expr{Kind: kind, Args: args} }

// P19.1
func TestNeed(t *testing.T) {
	for s, want := range map[string]int{
		"a": 1, "1": 1, "{}": 1, "NIL": 1, `"text"`: 1, "TRUE": 1, "-a": 1, "~a": 1, "a.b": 1, "a.b.c^.d": 1,
		"a + b": 2, "a + b * c": 3, "a * b + c": 2, "a + b + c + d": 2, "a + (b + (c + d))": 4, "(a + b) + (c + d)": 3, "-(a + b)": 2, "a[i]": 2, "a[i, j]": 2, "a[i + j]": 3, "a[b[c[d]]]": 4, "a[i].f + b[j]^.g": 3, "a.f[i]": 2,
		"f()": 1, "f(a)": 2, "f(a, b, c, d, e)": 2, "f(a + b, c + d)": 2, "f(a + (b + c))": 3, "f(a, b + (c + d))": 3, "f(a)(b)": 2, "a[i](b)": 2, "a[i + j](b)": 3, "f(f(f(a)))": 2, "a + f(b)": 3, "a + f(b + (c + d))": 4, "f(b) + a": 2, "a + (b + f())": 3, "f(a, f(a, b + c))": 2,
		"{a}": 1, "{a, b}": 2, "{a, b, c}": 3, "{a .. b}": 2, "{a, b .. c}": 3, "{a, b, c .. d}": 4, "{a + b}": 2, "{a, b + c}": 3, "{1, 2, 3, 4, 5, 6, 7, 8, 9}": 9, "{a + (b + (c + d)), e}": 4,
	} {
		if got := Need(parsed(t, s)); got != want {
			t.Errorf("P19.1: %s needs %d, not %d", s, got, want)
		}
	}
}

// P19.1: kinds count for nothing but a call's.
func TestKinds(t *testing.T) {
	leaf := api.Expr{Kind: api.ExName}
	two := of(api.ExBinary, leaf, leaf)
	for _, kind := range []int{math.MinInt, -1, 0, 1, 2, 3, 4, 5, 6, 7, 8, 9, 10, 11, 12, 13, 14, 15, math.MaxInt} {
		for _, x := range []struct {
			args       []api.Expr
			want, call int
		}{
			{nil, 1, 1}, {[]api.Expr{}, 1, 1}, {[]api.Expr{leaf}, 1, 1}, {[]api.Expr{two}, 2, 2}, {[]api.Expr{leaf, leaf}, 2, 2}, {[]api.Expr{leaf, two}, 3, 2}, {[]api.Expr{leaf, leaf, leaf, leaf}, 4, 2}, {[]api.Expr{leaf, leaf, of(api.ExBinary, leaf, two)}, 5, 3}, {[]api.Expr{of(api.ExBinary, leaf, of(0, leaf, two)), leaf}, 4, 4},
		} {
			want := x.want
			if kind == api.ExCall {
				want = x.call
			}
			if got := Need(of(kind, x.args...)); got != want {
				t.Errorf("P19.1: kind %d with %d Args needs %d, not %d", kind, len(x.args), got, want)
			}
		}
	}
	if got := Need(api.Expr{Kind: api.ExCall, N: -7, Text: "x", Op: "+", At: -1}); got != 1 {
		t.Errorf("P19.1: %d", got)
	}
}

// P19.1: no more than MaxNest + MaxList is told.
func TestMost(t *testing.T) {
	const most = api.MaxNest + api.MaxList
	leaf := api.Expr{Kind: api.ExInt}
	for _, n := range []int{1, 2, most - 1, most, most + 1, 2 * most, 1 << 20} {
		l := slices.Repeat([]api.Expr{leaf}, n)
		if got := Need(of(api.ExSet, l...)); got != min(n, most) {
			t.Errorf("P19.1: %d Args need %d", n, got)
		}
		if got, want := Need(of(api.ExCall, l...)), min(n, 2); got != want {
			t.Errorf("P19.1: a call with %d Args needs %d", n, got)
		}
	}
	// Deep ones, to the right and to the left.
	right, left, call := leaf, leaf, leaf
	for n := 2; n <= 1<<16; n++ {
		right, left, call = of(api.ExBinary, leaf, right), of(api.ExBinary, left, leaf), of(api.ExCall, leaf, call)
		if n > 2*most && n&(n-1) != 0 {
			continue
		}
		for _, x := range []struct {
			e    api.Expr
			want int
		}{{right, min(n, most)}, {left, 2}, {call, 2}, {of(api.ExCall, leaf, right), min(n, most)}, {of(api.ExUnary, right), min(n, most)}, {of(api.ExBinary, leaf, of(api.ExCall, right)), min(n+1, most)}} {
			if got := Need(x.e); got != x.want {
				t.Errorf("P19.1: %d deep: %d, not %d", n, got, x.want)
			}
		}
	}
	// The rest of a long list counts where the beginning does not.
	if got := Need(of(api.ExCall, leaf, leaf, right)); got != most {
		t.Errorf("P19.1: %d", got)
	}
}

func random(r *rand.Rand, depth int) api.Expr {
	e := api.Expr{Kind: r.Intn(16), N: r.Intn(3)}
	if depth > 0 {
		for range r.Intn(4) {
			e.Args = append(e.Args, random(r, depth-1))
		}
	}
	return e
}

// model counts the registers that are taken while a walk goes on: what stands
// under a call's parameters begins anew.
func model(e api.Expr, taken int, highest *int) {
	*highest = max(*highest, taken+1)
	for i, a := range e.Args {
		if e.Kind == api.ExCall && i > 0 {
			own := 0
			model(a, 0, &own)
			*highest = max(*highest, taken+own, taken+2)
			continue
		}
		model(a, taken+i, highest)
	}
}

// P19.1, P19.2
func TestRandom(t *testing.T) {
	r := rand.New(rand.NewSource(19))
	for range 20000 {
		e := random(r, 6)
		want := 0
		model(e, 0, &want)
		got := Need(e)
		if got != want {
			t.Errorf("P19.1: %d, not %d: %v", got, want, e)
		}
		for _, a := range e.Args {
			if Need(a) > got {
				t.Errorf("P19.2: %d within %d: %v", Need(a), got, e)
			}
		}
	}
}

// Rule 2.
func TestUnchanged(t *testing.T) {
	e := parsed(t, "f(a + b, c[d]) + {1, 2 .. x}")
	before := fmt.Sprint(e)
	Need(e)
	if fmt.Sprint(e) != before {
		t.Error("rule 2: the expression is changed")
	}
}
