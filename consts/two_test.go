package consts

import (
	"testing"

	"spinet/api"
)

func TestExamples(t *testing.T) {
	mustTwo(t, "DIV", num(-7), num(2), is(num(-4)))
	mustTwo(t, "MOD", num(-7), num(2), is(num(1)))
	a, err := Set([][2]int{{0, 3}})
	b, err2 := Set([][2]int{{2, 2}, {5, 5}})
	if err != api.OK || err2 != api.OK {
		t.Fatal(err, err2)
	}
	mustTwo(t, "*", a, b, is(elems(2)))
}

func TestSumsOfInts(t *testing.T) { // P12.3
	for _, x := range []struct {
		op   string
		a, b int
		want answer
	}{
		{"+", 5, -7, is(num(-2))}, {"+", greatest, 0, is(num(greatest))}, {"+", greatest, 1, fails(api.ErrRange)}, {"+", 1, greatest, fails(api.ErrRange)}, {"+", greatest - 1, 1, is(num(greatest))},
		{"+", least, -1, fails(api.ErrRange)}, {"+", -1, least, fails(api.ErrRange)}, {"+", least + 1, -1, is(num(least))}, {"+", least, greatest, is(num(-1))}, {"+", greatest, greatest, fails(api.ErrRange)}, {"+", least, least, fails(api.ErrRange)},
		{"-", 5, 7, is(num(-2))}, {"-", 7, 5, is(num(2))}, {"-", least, 1, fails(api.ErrRange)}, {"-", least + 1, 1, is(num(least))}, {"-", greatest, -1, fails(api.ErrRange)}, {"-", greatest - 1, -1, is(num(greatest))},
		{"-", 0, least, fails(api.ErrRange)}, {"-", -1, least, is(num(greatest))}, {"-", 0, greatest, is(num(-greatest))}, {"-", -1, greatest, is(num(least))}, {"-", -2, greatest, fails(api.ErrRange)},
		{"-", least, least, is(num(0))}, {"-", greatest, greatest, is(num(0))}, {"-", greatest, least, fails(api.ErrRange)}, {"-", least, greatest, fails(api.ErrRange)},
		{"*", 6, 7, is(num(42))}, {"*", -6, 7, is(num(-42))}, {"*", 6, -7, is(num(-42))}, {"*", -6, -7, is(num(42))}, {"*", least, 0, is(num(0))}, {"*", least, 1, is(num(least))}, {"*", 1, least, is(num(least))},
		{"*", least, -1, fails(api.ErrRange)}, {"*", -1, least, fails(api.ErrRange)}, {"*", greatest, -1, is(num(-greatest))}, {"*", greatest, 2, fails(api.ErrRange)},
		{"*", 65536, 32768, fails(api.ErrRange)}, {"*", -65536, 32768, is(num(least))}, {"*", 65536, -32768, is(num(least))}, {"*", -65536, -32768, fails(api.ErrRange)}, {"*", 46340, 46340, is(num(2147395600))}, {"*", 46341, 46341, fails(api.ErrRange)},
		{"*", 65536, 65536, fails(api.ErrRange)}, {"*", 65537, 65536, fails(api.ErrRange)}, {"*", least, 2, fails(api.ErrRange)}, {"*", least, least, fails(api.ErrRange)}, {"*", greatest, greatest, fails(api.ErrRange)}, {"*", least, greatest, fails(api.ErrRange)}, {"*", least, 1 << 30, fails(api.ErrRange)},
	} {
		mustTwo(t, x.op, num(x.a), num(x.b), x.want)
	}
}

func TestDivisions(t *testing.T) { // P12.3
	for _, x := range []struct{ a, b, quotient, rest int }{
		{7, 2, 3, 1}, {-7, 2, -4, 1}, {8, 4, 2, 0}, {-8, 4, -2, 0}, {0, 5, 0, 0}, {3, 5, 0, 3}, {-3, 5, -1, 2}, {-1, greatest, -1, greatest - 1}, {1, greatest, 0, 1},
		{7, 1, 7, 0}, {-7, 1, -7, 0}, {least, 1, least, 0}, {greatest, 1, greatest, 0}, {least, 2, -1 << 30, 0}, {least, 3, -715827883, 1}, {least, greatest, -2, greatest - 1}, {-greatest, greatest, -1, 0},
		{greatest, greatest, 1, 0}, {greatest - 1, greatest, 0, greatest - 1}, {greatest, 2, 1<<30 - 1, 1}, {least + 1, 2, -1 << 30, 1},
	} {
		mustTwo(t, "DIV", num(x.a), num(x.b), is(num(x.quotient)))
		mustTwo(t, "MOD", num(x.a), num(x.b), is(num(x.rest)))
	}
	for _, a := range []int{least, -7, -1, 0, 1, 7, greatest} {
		for _, b := range []int{0, -1, -2, -7, least + 1, least} {
			mustTwo(t, "DIV", num(a), num(b), fails(api.ErrZero))
			mustTwo(t, "MOD", num(a), num(b), fails(api.ErrZero))
		}
	}
}

func TestSets(t *testing.T) { // P12.3
	a, b := elems(0, 1, 5, 31), elems(1, 2, 31)
	for _, x := range []struct {
		op         string
		a, b, want api.Value
	}{
		{"+", a, b, elems(0, 1, 2, 5, 31)}, {"-", a, b, elems(0, 5)}, {"-", b, a, elems(2)}, {"*", a, b, elems(1, 31)}, {"/", a, b, elems(0, 2, 5)},
		{"+", word(0), word(0), word(0)}, {"-", word(0), word(0), word(0)}, {"*", word(0), word(0), word(0)}, {"/", word(0), word(0), word(0)},
		{"+", word(full), word(0), word(full)}, {"-", word(full), word(0), word(full)}, {"*", word(full), word(0), word(0)}, {"/", word(full), word(0), word(full)},
		{"+", word(0), word(full), word(full)}, {"-", word(0), word(full), word(0)}, {"*", word(0), word(full), word(0)}, {"/", word(0), word(full), word(full)},
		{"+", word(full), word(full), word(full)}, {"-", word(full), word(full), word(0)}, {"*", word(full), word(full), word(full)}, {"/", word(full), word(full), word(0)},
		{"+", elems(31), elems(0), elems(0, 31)}, {"-", elems(31), elems(0), elems(31)}, {"*", elems(31), elems(31), elems(31)}, {"/", elems(31), elems(31), word(0)}, {"/", elems(31), elems(30), elems(30, 31)},
		{"-", word(full), elems(31), word(greatest)}, {"*", word(full), a, a}, {"/", word(full), a, word(full - a.N)},
	} {
		mustTwo(t, x.op, x.a, x.b, is(x.want))
	}
}

func TestBooleans(t *testing.T) { // P12.3
	for _, x := range []struct{ a, b, and, or int }{{0, 0, 0, 0}, {0, 1, 0, 1}, {1, 0, 0, 1}, {1, 1, 1, 1}} {
		mustTwo(t, "&", truth(x.a), truth(x.b), is(truth(x.and)))
		mustTwo(t, "OR", truth(x.a), truth(x.b), is(truth(x.or)))
	}
}

// Of each row every value is below the next one.
func rising() []vals {
	return []vals{
		list(num(least), num(least+1), num(-256), num(-1), num(0), num(1), num(255), num(256), num(greatest-1), num(greatest)),
		list(char(0), char(1), char(31), char(34), char(97), char(127), char(128), char(200), char(255)),
		list(text(""), text(" "), text("A"), text("AB"), text("a"), text("a "), text("aa"), text("ab"), text("abc"), text("b"), text(longest[1:]), text(longest), text("\x7f"), text("\x80"), text("\x80\x20"), text("\xc3\xa9"), text("\xff"), text("\xff\xff")),
	}
}

func TestOrders(t *testing.T) { // P12.3
	yes := map[bool]api.Value{false: truth(0), true: truth(1)}
	for _, row := range rising() {
		for i, a := range row {
			for j, b := range row {
				mustTwo(t, "=", a, b, is(yes[i == j]))
				mustTwo(t, "#", a, b, is(yes[i != j]))
				mustTwo(t, "<", a, b, is(yes[i < j]))
				mustTwo(t, "<=", a, b, is(yes[i <= j]))
				mustTwo(t, ">", a, b, is(yes[i > j]))
				mustTwo(t, ">=", a, b, is(yes[i >= j]))
			}
		}
	}
}

func TestSameWithoutOrder(t *testing.T) { // P12.3
	for _, x := range []struct {
		a, b api.Value
		same int
	}{
		{truth(0), truth(0), 1}, {truth(1), truth(1), 1}, {truth(0), truth(1), 0}, {truth(1), truth(0), 0},
		{word(0), word(0), 1}, {word(full), word(full), 1}, {word(0), word(full), 0}, {elems(31), elems(31), 1}, {elems(31), elems(30), 0}, {elems(0), elems(0, 31), 0}, {null, null, 1},
	} {
		mustTwo(t, "=", x.a, x.b, is(truth(x.same)))
		mustTwo(t, "#", x.a, x.b, is(truth(1-x.same)))
		for _, op := range []string{"<", "<=", ">", ">="} {
			mustTwo(t, op, x.a, x.b, fails(api.ErrConst))
		}
	}
}

func TestTextsOfOneByte(t *testing.T) { // P12.3
	yes := map[bool]api.Value{false: truth(0), true: truth(1)}
	for _, s := range []string{" ", "!", "a", "b", "\x7f", "\x80", "\xff"} {
		n := int(s[0])
		for _, m := range []int{0, n - 1, n, (n + 1) % 256, 255} {
			for op, holds := range map[string][2]bool{"=": {n == m, m == n}, "#": {n != m, m != n}, "<": {n < m, m < n}, "<=": {n <= m, m <= n}, ">": {n > m, m > n}, ">=": {n >= m, m >= n}} {
				mustTwo(t, op, text(s), char(m), is(yes[holds[0]]))
				mustTwo(t, op, char(m), text(s), is(yes[holds[1]]))
			}
		}
	}
	// Where there is no FmChar they are texts: one byte is not below two of
	// the same.
	mustTwo(t, "=", text("a"), text("a"), is(truth(1)))
	mustTwo(t, "<", text("a"), text("aa"), is(truth(1)))
	for _, op := range []string{"=", "#", "<", "<=", ">", ">="} {
		for _, s := range []string{"", "ab", "aa", "\u00e9", longest} {
			mustTwo(t, op, text(s), char(97), fails(api.ErrConst))
			mustTwo(t, op, char(97), text(s), fails(api.ErrConst))
			mustTwo(t, op, char(0), text(s), fails(api.ErrConst))
		}
		mustTwo(t, op, text("a"), num(97), fails(api.ErrConst))
		mustTwo(t, op, num(97), text("a"), fails(api.ErrConst))
	}
	for _, op := range []string{"+", "-", "*", "/", "&", "OR", "DIV", "MOD", "IN"} {
		mustTwo(t, op, text("a"), char(97), fails(api.ErrConst))
		mustTwo(t, op, char(97), text("a"), fails(api.ErrConst))
		mustTwo(t, op, text("a"), elems(1), fails(api.ErrConst))
	}
}

func TestIn(t *testing.T) { // P12.3
	for e := range 32 {
		mustTwo(t, "IN", num(e), elems(e), is(truth(1)))
		mustTwo(t, "IN", num(e), word(full-elems(e).N), is(truth(0)))
		mustTwo(t, "IN", num(e), word(full), is(truth(1)))
		mustTwo(t, "IN", num(e), word(0), is(truth(0)))
		mustTwo(t, "IN", elems(e), num(e), fails(api.ErrConst))
	}
	for _, n := range []int{least, -32, -31, -1, 32, 33, 63, 64, 256, greatest} {
		mustTwo(t, "IN", num(n), word(full), fails(api.ErrRange))
		mustTwo(t, "IN", num(n), word(0), fails(api.ErrRange))
		mustTwo(t, "IN", num(n), word(-1), fails(api.ErrConst))
		mustTwo(t, "IN", num(n), num(1), fails(api.ErrConst))
	}
	for _, v := range goodValues() {
		if v.Form != api.FmInt {
			mustTwo(t, "IN", v, word(full), fails(api.ErrConst))
		}
		if v.Form != api.FmSet {
			mustTwo(t, "IN", num(1), v, fails(api.ErrConst))
			mustTwo(t, "IN", num(32), v, fails(api.ErrConst))
		}
	}
}

func TestTwoOfOtherForms(t *testing.T) { // P12.1, P12.3
	for _, x := range []struct {
		form  int
		signs string
	}{
		{api.FmInt, " + - * DIV MOD = # < <= > >= "}, {api.FmBool, " & OR = # "}, {api.FmChar, " = # < <= > >= "},
		{api.FmSet, " + - * / = # "}, {api.FmNil, " = # "}, {api.FmText, " = # < <= > >= "},
	} {
		for _, op := range signs() {
			for _, a := range goodValues() {
				_, err := Two(op, a, a)
				if a.Form == x.form && (err != api.ErrConst) != hasSign(x.signs, op) {
					t.Errorf("P12.3: Two(%.20q) twice of %s: %v", op, say(a), err)
				}
			}
		}
	}
}

func TestTwoOfDifferentForms(t *testing.T) { // P12.3
	oneByte := func(v api.Value) bool { return v.Form == api.FmText && len(v.Text) == 1 }
	for _, op := range known() {
		for _, a := range goodValues() {
			for _, b := range goodValues() {
				asChar := a.Form == api.FmChar && oneByte(b) || oneByte(a) && b.Form == api.FmChar
				if a.Form == b.Form || asChar || op == "IN" && a.Form == api.FmInt && b.Form == api.FmSet {
					continue
				}
				mustTwo(t, op, a, b, fails(api.ErrConst))
			}
		}
	}
}

func TestTwoOfSignsThatAreNone(t *testing.T) { // P12.1, P12.3
	of := vals{num(0), num(1), num(-1), num(32), num(greatest), truth(0), truth(1), char(97), word(1), word(full), null, text("a"), text("")}
	for _, op := range append(unknown(), "~", "ABS", "ODD", "LSL", "ASR", "ROR", "ORD", "CHR") {
		for _, a := range of {
			for _, b := range of {
				mustTwo(t, op, a, b, fails(api.ErrConst))
			}
		}
	}
}

// What is not Good comes ahead of any other error.
func TestTwoOfBadValues(t *testing.T) { // P12.1, P12.3
	for _, op := range signs() {
		for _, bad := range badValues() {
			for _, v := range []api.Value{num(0), num(-1), num(32), num(greatest), truth(1), char(97), word(1), null, text("a"), bad} {
				mustTwo(t, op, bad, v, fails(api.ErrConst))
				mustTwo(t, op, v, bad, fails(api.ErrConst))
			}
		}
	}
}

func TestQuotientAndRest(t *testing.T) { // P12.6
	seen := 0
	for _, a := range goodValues() {
		for _, b := range goodValues() {
			q, err := Two("DIV", a, b)
			r, err2 := Two("MOD", a, b)
			if err != err2 {
				t.Errorf("P12.6: DIV and MOD of %s: %v, %v", say(a, b), err, err2)
			}
			if err != api.OK {
				continue
			}
			// The product alone may lie below -2^31; the rest brings it back.
			if q.N*b.N+r.N != a.N || r.N < 0 || r.N >= b.N {
				t.Errorf("P12.6: %v and %v: %v, %v", a, b, q, r)
			}
			if p, err := Two("*", q, b); err == api.OK {
				mustTwo(t, "+", p, r, is(a))
				seen++
			} else if err != api.ErrRange || q.N*b.N >= least {
				t.Errorf("P12.6: %v * %v: %v", q, b, err)
			}
		}
	}
	if seen < 100 {
		t.Errorf("P12.6: seen of %d pairs alone", seen)
	}
}

func TestDifferencesOfSets(t *testing.T) { // P12.7
	do := func(op string, a, b api.Value) api.Value {
		v, err := Two(op, a, b)
		if err != api.OK {
			t.Fatalf("P12.7: Two(%q, %v, %v): %v", op, a, b, err)
		}
		return v
	}
	for _, a := range goodValues() {
		for _, b := range goodValues() {
			if a.Form != api.FmSet || b.Form != api.FmSet {
				continue
			}
			not, err := One("-", b)
			if err != api.OK {
				t.Fatal(err)
			}
			if x, y := do("-", a, b), do("*", a, not); x != y {
				t.Errorf("P12.7: %v - %v is %v, not %v", a, b, x, y)
			}
			if x, y := do("/", a, b), do("+", do("-", a, b), do("-", b, a)); x != y {
				t.Errorf("P12.7: %v / %v is %v, not %v", a, b, x, y)
			}
		}
	}
}
